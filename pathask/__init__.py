"""Pathask: who is reached by ways that fit a pattern."""
