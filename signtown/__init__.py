"""Signtown: one-way signs after which everybody still comes everywhere."""
