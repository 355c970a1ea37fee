"""Shares of weights, and sums of rows by rays."""
