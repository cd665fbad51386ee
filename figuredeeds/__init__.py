"""Figuredeeds: figures on a ground, with scripts of stacked deeds."""
