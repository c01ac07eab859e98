"""Gapweave: rows of signs laid beside one another with gaps."""
