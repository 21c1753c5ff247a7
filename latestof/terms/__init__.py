"""Expressions of times, and the rules that compare them."""
