"""Rule sets as texts and as bytes."""
