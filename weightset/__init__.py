"""Weightset: sets of weights each there once, and what can be weighed with them."""
