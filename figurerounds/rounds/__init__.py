"""What becomes of numbers whose step is taken again and again."""
