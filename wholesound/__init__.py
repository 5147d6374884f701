"""Sounds kept without loss, and what their tools do for all sounds."""
