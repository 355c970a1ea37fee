"""Texts of rows, words, points and values, and a shell."""
