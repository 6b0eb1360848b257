"""Errors, words, operations and runs."""
