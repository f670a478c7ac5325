"""Rows, standings and greatest losses."""
