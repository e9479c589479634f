"""Endwise: rules over terms that come to an end."""
