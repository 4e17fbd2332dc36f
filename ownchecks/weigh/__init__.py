"""Counts of the words of each weight."""
