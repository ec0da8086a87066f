"""Nestedwishes: nested questions about things of several kinds."""
