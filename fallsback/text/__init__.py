"""Texts, and a shell over a desk."""
