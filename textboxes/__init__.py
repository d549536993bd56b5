"""Textboxes: programs that read a text once and put a new one together in boxes."""
