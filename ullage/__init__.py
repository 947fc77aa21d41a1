"""Ullage: room left in pages, told by a tree."""
