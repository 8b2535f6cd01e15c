"""Numbers that are powers."""
