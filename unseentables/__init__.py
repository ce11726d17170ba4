"""Unseentables: a table engine whose touches tell nothing of the tables."""
