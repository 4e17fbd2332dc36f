"""Codes that are led to one another by exchanges of places."""
