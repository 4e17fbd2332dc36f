"""Words and spans."""
