"""Millsluices: mills that never stop."""
