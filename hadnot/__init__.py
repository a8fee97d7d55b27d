"""Hadnot: a database that knows what its answers would have been in other worlds."""
