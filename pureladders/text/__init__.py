"""Texts of lots, families, tables and chains."""
