"""A desk that runs a program."""
