"""Webs, and webs that are drawn on a ball."""
