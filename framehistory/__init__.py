"""Framehistory: back and forward in pages with frames, and the cares that make each step right."""
