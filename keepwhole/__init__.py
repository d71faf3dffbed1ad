"""Keepwhole: makes of a thing, kept whole or as changes of another make."""
