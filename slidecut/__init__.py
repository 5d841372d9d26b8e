"""Slidecut: cloths cut into pieces, and slid to lie as other cloths."""
