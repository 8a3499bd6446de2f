"""Runs of programs, step by step and in pieces."""
