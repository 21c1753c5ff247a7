"""How fast rules go."""
