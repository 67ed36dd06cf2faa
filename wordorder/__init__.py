"""Numbers in the alphabetical order of their names."""
