"""Causehall: letters to all that keep causes, and one order for all by a seat that moves."""
