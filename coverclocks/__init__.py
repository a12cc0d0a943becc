"""Coverclocks: clocks that cover every number."""
