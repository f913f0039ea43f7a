"""Squeezelists: replacements that collapse runs of equal characters."""
