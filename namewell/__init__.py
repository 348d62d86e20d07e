"""Namewell: a tree of names kept by many houses."""
