"""Furrow: nests of loops, gone through in another order."""
