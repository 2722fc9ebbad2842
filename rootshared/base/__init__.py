"""Webs and pools."""
