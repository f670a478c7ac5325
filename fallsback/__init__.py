"""Fallsback: how far failures throw processes back."""
