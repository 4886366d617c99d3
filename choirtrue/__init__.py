"""Choirtrue: songs sung pure, how they sink, and how they are brought back."""
