"""Fewindexes: which sorted lists of a table serve what is asked."""
