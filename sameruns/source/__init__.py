"""The run of the source."""
