"""Stubbornest: how many tests find a table that never falls."""
