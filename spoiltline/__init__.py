"""Spoiltline: what transmission errors do to what a decoder writes."""
