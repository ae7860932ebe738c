"""Levelkin: webs told alike at a level, from four sides."""
