"""Hourhaul: loads over ways that take hours."""
