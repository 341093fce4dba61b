"""Hueward: right or caught, whatever is struck."""
