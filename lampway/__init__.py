"""Lampway: a crossing's lamps, and a line of crossings."""
