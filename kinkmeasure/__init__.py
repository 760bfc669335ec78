"""Kinkmeasure: how much of a region breaks a claim about a network, and the least repair."""
