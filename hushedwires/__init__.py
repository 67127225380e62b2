"""Crossings in pairs of wires, and what they hear of all hums of a told kind."""
