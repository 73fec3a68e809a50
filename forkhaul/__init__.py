"""Forkhaul: histories that are forked, fetched, searched and never lost."""
