"""What can still be thrown back, and useless places."""
