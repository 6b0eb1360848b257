"""Registers and slots for the variables of flows."""
