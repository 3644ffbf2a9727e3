"""Linehold: one takes places to have a whole line, and the holder holds him off."""
