"""Tells each answer at the earliest right moment in a net of houses."""
