"""Modes of holding, drawn from what may be done side by side."""
