"""Codes by fours, halves and shadows."""
