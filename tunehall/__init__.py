"""Tunehall: stations given tunes so that near ones keep apart."""
