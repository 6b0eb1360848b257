"""Objects, their listings, and linking."""
