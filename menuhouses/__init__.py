"""Menuhouses: what a house of people takes from any menu."""
