"""Partways: numbers told as sums of parts."""
