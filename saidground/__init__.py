"""Saidground: letters that speak of things by what was said between two."""
