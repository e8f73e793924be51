"""Wordrooms: a language in which everything is a text."""
