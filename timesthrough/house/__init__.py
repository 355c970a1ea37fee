"""Shelves of named rows, hands that change them, and logs."""
