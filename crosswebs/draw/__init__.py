"""Drawings of strings."""
