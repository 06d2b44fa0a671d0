"""Trees joined by a new tie."""
