"""Twobesides: who knows whom, whatever the company."""
