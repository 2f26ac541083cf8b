"""Sayings about several runs at once."""
