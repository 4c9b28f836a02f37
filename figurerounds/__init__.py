"""Figurerounds: sums of powers of figures, taken again and again."""
