"""Linegate: a gate before a common line of changes."""
