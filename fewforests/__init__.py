"""Fewforests: webs laid in the fewest forests."""
