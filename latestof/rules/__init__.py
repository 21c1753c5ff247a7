"""Rule sets and times."""
