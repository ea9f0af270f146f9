"""A line that blood goes through, and the guard that watches it."""
