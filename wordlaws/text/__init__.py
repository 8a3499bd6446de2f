"""Texts of programs, rows, points and trails, and a shell that understands commands."""
