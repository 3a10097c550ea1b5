"""Shrunk rooms: what several tables lose together."""
