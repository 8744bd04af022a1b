"""Stagedplans: opening a new version of a program in stages."""
