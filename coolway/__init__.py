"""Goods that must stay cool on roads whose hours are known only up to some lateness."""
