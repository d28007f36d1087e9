"""Straight lots, orders of members by letters, and lots of pairs."""
