"""Nodeladder: roads, ranks and short cuts."""
