"""Points and polynomials over a prime."""
