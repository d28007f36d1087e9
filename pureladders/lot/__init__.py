"""Products of letters, and lots of products."""
