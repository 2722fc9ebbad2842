"""Programs that are made, and programs that are driven."""
