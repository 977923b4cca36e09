"""Stillfound: who is still found, whatever cards are shown and given."""
