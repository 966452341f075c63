"""Letforget: a keeper that knows which ended programs it may forget."""
