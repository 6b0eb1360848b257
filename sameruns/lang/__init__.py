"""The language: tokens, trees, units, reading, writing and checking."""
