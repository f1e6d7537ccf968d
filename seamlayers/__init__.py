"""Strands that go through layers, and what greedy products tell of them."""
