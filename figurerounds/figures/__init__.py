"""Numbers by their figures."""
