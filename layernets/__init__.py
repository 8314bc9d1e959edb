"""Layernets: nets of weirs, dividers and joins, whatever comes in."""
