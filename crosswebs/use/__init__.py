"""A bench to work on a drawing."""
