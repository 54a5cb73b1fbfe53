"""Waitnumbers: numbers that are used again, and what waiting sets keep of them."""
