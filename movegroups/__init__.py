"""Movegroups: groups told by moves, by words, by tables."""
