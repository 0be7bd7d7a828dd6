"""Rotations of binary trees, decided for all trees."""
