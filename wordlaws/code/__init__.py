"""Rows, matrices and programs."""
