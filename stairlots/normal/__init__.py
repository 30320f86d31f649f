"""Normal lots, what is left by them, and lots of brackets."""
