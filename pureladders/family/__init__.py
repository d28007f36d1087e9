"""Families of sets of corners, their holes, links and duals."""
