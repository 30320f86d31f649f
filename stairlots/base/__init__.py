"""Integers, ratios and shapes."""
