"""Two powers and more: their differences and their sums."""
