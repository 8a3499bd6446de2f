"""Modules of vectors: their bases, their duals and objects for them."""
