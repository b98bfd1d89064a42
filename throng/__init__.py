"""Throng: all letters at once through a net of houses."""
