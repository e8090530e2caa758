"""Keptsorted: sortings along chains that keep one another."""
