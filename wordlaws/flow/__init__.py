"""What runs do to entries and which states they lead to, as modules."""
