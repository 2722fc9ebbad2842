"""Links and closed groups."""
