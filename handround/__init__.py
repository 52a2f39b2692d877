"""Handround: how many have to trade at once."""
