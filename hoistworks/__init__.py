"""Hoistworks: hoists of ropes, hanging rollers and weights."""
