"""Mightever: rights given and taken by rules, and papers for what can never be."""
