"""Integers and tables of rests."""
