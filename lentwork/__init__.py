"""Lentwork: pieces of work lent with marks of how far."""
