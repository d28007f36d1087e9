"""Ladders: rungs at steps, and maps between them."""
