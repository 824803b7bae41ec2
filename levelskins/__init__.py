"""Levelskins: skins drawn through fields of numbers."""
