"""Movingpages: pages of a list whose order keeps changing."""
