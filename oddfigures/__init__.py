"""Oddfigures: whole numbers written with any digits."""
