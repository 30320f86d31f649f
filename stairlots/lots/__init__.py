"""Lots, their chains, and the derivations of their members."""
