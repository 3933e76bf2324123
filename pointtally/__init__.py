"""Pointtally: counts of whole points, told for all sizes."""
