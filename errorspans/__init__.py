"""Errorspans: independent syntax errors of a text."""
