"""Sortlore: orders of writing, told by rules as text."""
