"""What lots lead to what: numbers, tuples of stairs, and stairs from both sides."""
