"""Settledcases: a court that never goes against what it has decided."""
