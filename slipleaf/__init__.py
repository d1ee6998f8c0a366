"""Slipleaf: forms of questions printed as booklets, filled with slips, read, and asked again."""
