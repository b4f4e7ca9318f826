"""Tests of crosswebs."""
