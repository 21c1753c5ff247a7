"""Tests of latestof. They stand beside the package and use the whole of Python."""
