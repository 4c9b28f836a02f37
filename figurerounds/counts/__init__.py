"""How many numbers end where, and which."""
