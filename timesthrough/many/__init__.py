"""Rows of ten points and more."""
