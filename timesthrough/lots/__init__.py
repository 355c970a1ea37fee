"""Exceptional rows that do not meet, and renamings of them."""
