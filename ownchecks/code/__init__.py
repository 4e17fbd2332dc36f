"""Codes."""
