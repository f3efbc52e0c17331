"""Unfoldnet: nets of places and moves, and the web of all that may come."""
