"""Shadowheaps: families of sets, and the shadows they throw."""
