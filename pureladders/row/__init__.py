"""How many products of each degree a lot leaves."""
