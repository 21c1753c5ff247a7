"""Times that must not come later than the latest of several others."""
