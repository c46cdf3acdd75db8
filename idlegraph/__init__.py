"""Idlegraph: nothing is reckoned ahead of being wanted."""
