"""Poolrules: a pool of facts changed by rules."""
