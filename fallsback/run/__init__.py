"""Runs, lines and histories."""
