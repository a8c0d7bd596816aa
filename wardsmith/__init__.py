"""Wardsmith: barrels pinned and keys cut so that each key opens its own doors and no other."""
