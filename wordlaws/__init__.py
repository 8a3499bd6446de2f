"""Wordlaws: all linear invariants of word programs."""
