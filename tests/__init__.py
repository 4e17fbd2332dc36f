"""Tests of ownchecks."""
