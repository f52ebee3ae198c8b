"""Edgesaway: a graph store whose answers know how many changes they are away from being otherwise."""
