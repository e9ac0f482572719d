"""Headskip: which blocks of a table must be read."""
