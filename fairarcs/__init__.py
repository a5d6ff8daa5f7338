"""Fairarcs: exact answers about arcs of dark and light beads on a ring."""
