"""Changes of the plane."""
