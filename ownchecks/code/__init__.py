"""Codes, and their cosets."""
