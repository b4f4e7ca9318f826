"""Pairings of crossings and rims, and what comes of them."""
