"""Callsheets: a shooting that keeps its rules in every course."""
