"""Edits of programs, and a workshop that keeps a program with its steps and watches."""
