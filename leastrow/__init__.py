"""Leastrow: the cheapest rows of steps that do what is wished."""
