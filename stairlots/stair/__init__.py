"""Stairs, and the singles of which they are products."""
