"""Sortpost: rules that sort letters, and what holds of them for all letters."""
