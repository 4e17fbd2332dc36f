"""A bench on which own codes are worked at."""
