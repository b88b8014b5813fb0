"""Lossbars: what can come about when anything may be lost."""
