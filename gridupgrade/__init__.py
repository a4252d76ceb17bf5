"""Gridupgrade: replacing services one at a time."""
