"""Desks of pools."""
