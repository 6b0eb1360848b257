"""Middle code and lowering."""
