"""Everypart: perfect graphs."""
