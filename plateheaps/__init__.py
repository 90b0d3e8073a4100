"""Plateheaps: flat plates laid over one another, and what half planes meet of them."""
