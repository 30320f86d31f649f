"""Lots of an index: the lots within a lot, by their tables."""
