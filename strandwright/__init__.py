"""Strands of beads, cut and joined by as few deeds as can be."""
