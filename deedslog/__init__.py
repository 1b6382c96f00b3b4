"""A log of deeds that brings everything back."""
