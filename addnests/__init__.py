"""Nests of loops that add to cells, decided for all arrays."""
