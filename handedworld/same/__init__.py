"""Pieces of work that mean the same."""
