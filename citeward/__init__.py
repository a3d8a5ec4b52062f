"""Citeward: works that are pointed to."""
