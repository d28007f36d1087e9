"""Lots side by side, cut letters, and cones."""
