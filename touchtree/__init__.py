"""Touchtree: boxes over boxes, and which of them hears a touch."""
