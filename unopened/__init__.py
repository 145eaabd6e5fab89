"""Unopened: nets of sums, delays and boxes that nobody has opened."""
