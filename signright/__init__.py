"""Signright: who may sign for a house, told by rules."""
