"""Trueagain: steps left out where what they saw is true again."""
