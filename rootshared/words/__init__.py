"""Words, views and lots."""
