"""Rootshared: agreeing in rounds in which some are not heard."""
