"""Integers, and rows of integers over a field."""
