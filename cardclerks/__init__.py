"""Clerks: cards in trays, taken, put, lent, lost and found."""
