"""What follows from rules, and which rules can be left out."""
