"""Papers, the judge, and the passes."""
