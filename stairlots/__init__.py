"""Stairlots: lots of whole tables with ones from corner to corner and zeros beneath."""
