"""The machine."""
