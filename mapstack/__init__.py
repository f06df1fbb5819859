"""Mapstack: source maps of texts that tools make from one another."""
