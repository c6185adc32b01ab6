"""Goesnext: which line of a cache goes next."""
