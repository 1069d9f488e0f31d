"""Onlybuilt: statements shown only by building."""
