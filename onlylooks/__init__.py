"""Onlylooks: rules over a whole database, kept with the fewest looks."""
