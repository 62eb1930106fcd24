"""Readorder: what unordered read logs show about a lazy program."""
