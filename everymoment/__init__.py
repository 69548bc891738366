"""Everymoment: programs on linked records, written for the present and remembered at every moment."""
