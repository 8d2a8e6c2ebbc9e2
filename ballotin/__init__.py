"""Ballotin: a head made by lots and votes by turns."""
