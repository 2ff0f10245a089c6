"""Shorthead: heads of letters, pressed by what both ends remember."""
