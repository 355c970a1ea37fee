"""Roots, the turns about them, and rows that are led to one another."""
