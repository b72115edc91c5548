"""Losspact: hands that agree over a road that loses letters."""
