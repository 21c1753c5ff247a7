"""Latest times and greatest differences."""
