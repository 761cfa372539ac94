"""Wornband: bands woven on tablets, and worn ones restored."""
