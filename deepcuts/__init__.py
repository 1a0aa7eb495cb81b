"""Deepcuts: filters of labelled trees in any order."""
