"""The tests of Mostcrowds."""
