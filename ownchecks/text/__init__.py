"""Texts of codes, words, exchanges and counts."""
