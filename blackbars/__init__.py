"""Blackbars: masked logs, and what they still tell."""
