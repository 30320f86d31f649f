"""Shadows of lots modulo an integer."""
