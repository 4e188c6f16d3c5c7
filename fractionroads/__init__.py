"""Fractionroads: roads between fractions, level by level."""
