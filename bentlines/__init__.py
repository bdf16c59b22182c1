"""Bentlines: lines that cross pair by pair once, straight or bent."""
