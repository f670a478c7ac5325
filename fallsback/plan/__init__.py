"""Further keepings, editions and rules."""
