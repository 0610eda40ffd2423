"""Places that no run comes to, and programs without what is not met."""
