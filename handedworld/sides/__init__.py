"""Programs in which both sides are exchanged."""
