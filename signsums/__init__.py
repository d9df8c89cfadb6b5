"""Signsums: rows of numbers and their sums with signs."""
