"""Signals: free ones, led into handed blocks, and charts that raise them."""
