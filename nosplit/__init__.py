"""Nosplit: a database of many versions, and which levels are enough."""
