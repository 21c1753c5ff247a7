"""Solutions and refutations of rule sets."""
