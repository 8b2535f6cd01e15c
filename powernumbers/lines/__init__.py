"""Lines that a desk is asked: how they are read, and what they tell of a TEXT."""
