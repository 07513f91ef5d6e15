"""Neverboxes: which programs can be written with which boxes, if inputs may never answer."""
