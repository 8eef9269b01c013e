"""Tar archives and the trees that they unpack to."""
