"""Timesthrough: curves that pass a told number of times through points."""
