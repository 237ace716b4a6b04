"""Fewopen: a hidden number in parts, and who may open it."""
