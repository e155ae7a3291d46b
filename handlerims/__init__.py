"""Handlerims: words of exchanges, their rims and what a round costs."""
