"""Loopsize: rows of loops over one size, for every size at once."""
