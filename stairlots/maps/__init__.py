"""Maps from lots to stairs."""
