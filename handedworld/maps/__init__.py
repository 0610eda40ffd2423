"""Sets of modes, and maps of sets."""
