"""Nearorders: loose things kept near in a row."""
