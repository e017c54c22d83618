"""Latestturn: a hall where each is told the latest turn by which they will be done."""
