"""Fewties: a few ties put in so that nothing is far."""
