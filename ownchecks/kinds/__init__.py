"""Kinds of own codes: lists of them, masses and tables."""
