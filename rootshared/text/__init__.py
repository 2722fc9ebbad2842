"""Texts, and the shell."""
