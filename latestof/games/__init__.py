"""Rules as an energy game."""
