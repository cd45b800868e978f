"""Evenwebs: webs in which any two places look alike."""
