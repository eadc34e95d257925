"""Scores of one board: contracts, matchpoints, percentages and IMPs, in whole numbers and exact fractions."""
