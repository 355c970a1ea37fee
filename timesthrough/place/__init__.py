"""Places: points over a prime, with the curves that lines and conics through them make."""
