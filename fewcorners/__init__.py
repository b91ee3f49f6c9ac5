"""Fewcorners: bodies of few corners, told by wheels."""
