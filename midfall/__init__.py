"""Midfall: cached results when a call fails midway."""
