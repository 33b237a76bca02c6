"""Hearpurse: spending from nested accounts by gossip."""
