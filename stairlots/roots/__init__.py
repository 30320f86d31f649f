"""Logs of stairs, roots, and the spans of rows that belong to lots."""
