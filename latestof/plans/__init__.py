"""Clauses about events, and plans made of them."""
