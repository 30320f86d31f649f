"""Texts of lots and of workshops."""
