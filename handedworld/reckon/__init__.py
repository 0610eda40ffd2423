"""What pieces of work mean for a goal."""
