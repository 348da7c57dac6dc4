"""Switches under rules of two, flipped one at a time."""
