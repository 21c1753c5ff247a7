"""Rules without some variables, and rules between two rule sets."""
