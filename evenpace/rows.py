"""Rows of windows."""

MAX_ROWS = 500
