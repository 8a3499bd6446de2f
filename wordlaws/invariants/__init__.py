"""Invariants, the papers that prove or break them, contracts and preconditions."""
