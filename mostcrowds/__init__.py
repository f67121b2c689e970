"""Mostcrowds: programs that ask how many of an unknown crowd."""
