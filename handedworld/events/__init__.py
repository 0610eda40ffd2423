"""Runs looked at forward, from where they begin."""
