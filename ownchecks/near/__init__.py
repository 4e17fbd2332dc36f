"""Neighbours of own codes, and all own codes."""
