"""Knownholds: stopping places where all holds are known."""
