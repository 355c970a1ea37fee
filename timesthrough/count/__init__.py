"""Standard rows, steps, and counts at general points."""
