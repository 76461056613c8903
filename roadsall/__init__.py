"""Roadsall: hands that send letters, and all their goings."""
