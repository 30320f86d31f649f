"""Polynomials, and books: how the exponents of members of a lot come of those of others."""
