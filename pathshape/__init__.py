"""Pathshape: what ways can find in trees of a shape."""
