"""What all other parts build on."""
