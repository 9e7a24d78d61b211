"""Laid out: records packed into few bits."""
