"""Slicewise: what of a program matters."""
