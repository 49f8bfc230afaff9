"""Frankmarks: marks for words, by what people believe."""
