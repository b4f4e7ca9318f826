"""Crosswebs: drawn strings read off two webs."""
