"""Lots that moves do not leave."""
