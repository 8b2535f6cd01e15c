"""How many powers there are, and powers by their number."""
