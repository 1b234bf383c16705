"""Timestretch: what time it is, sworn to by clocks that may be wrong."""
