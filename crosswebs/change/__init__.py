"""Crossings at which the upper string becomes the lower one."""
