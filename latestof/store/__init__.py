"""A store of assumed clauses."""
