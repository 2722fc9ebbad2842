"""Parts of pools, and pools that are put together."""
