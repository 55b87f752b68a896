"""Sevenball: spheres of fraction points cut and turned."""
