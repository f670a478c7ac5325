"""Words and machines."""
