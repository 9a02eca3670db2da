"""Swornhall: crafts that swear, and runs that never break a word."""
