"""Words and vectors."""
