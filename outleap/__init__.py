"""Repeated reflection around a convex polygon."""
