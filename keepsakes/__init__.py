"""Keepsakes: a table kept through a long row of days."""
