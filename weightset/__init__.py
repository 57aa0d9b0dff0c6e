"""Weightset: sets of weights each there once, what can be weighed, and the fewest more so that all can."""
