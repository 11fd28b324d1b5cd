"""Dustwalk: a machine that cleans a floor it has never seen."""
