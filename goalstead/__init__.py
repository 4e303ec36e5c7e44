"""Goalstead: a language of goals."""
