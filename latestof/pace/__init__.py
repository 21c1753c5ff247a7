"""How fast rules go, and what makes them feasible."""
