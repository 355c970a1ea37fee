"""Rows, their moves, and exceptional rows."""
