"""Instruction words, and the code of functions."""
