"""Lath: rows told by few straight pieces."""
