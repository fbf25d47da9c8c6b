"""Crewfloor: jobs on a floor of hours."""
