"""Newestrow: what concurrent transactions can do to a table, decided row by row."""
