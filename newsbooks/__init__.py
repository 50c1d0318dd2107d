"""Newsbooks: books of what is held true, changed by news."""
