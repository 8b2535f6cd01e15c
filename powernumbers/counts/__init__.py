"""How many powers there are, powers by their number, their rests and their kin."""
