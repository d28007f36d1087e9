"""Lots of products of letters, their ladders of relations, and pure tables."""
