"""Texts of programs, and commands."""
