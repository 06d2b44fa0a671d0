"""Farplaces: the farthest two places of a tree."""
