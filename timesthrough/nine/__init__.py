"""Rows of nine points."""
