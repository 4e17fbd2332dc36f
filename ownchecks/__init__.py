"""Codes that are their own checks, all of them."""
