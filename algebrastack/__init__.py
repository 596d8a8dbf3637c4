"""Algebrastack: a small computer algebra."""
