"""Whole units: compiling, certificates, and the shop."""
