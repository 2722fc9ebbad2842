"""Programs and their runs."""
