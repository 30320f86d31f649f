"""Workshops: lots that change, and wishes that they never lead."""
