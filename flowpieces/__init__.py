"""Flowpieces: steps made of pieces of flows, and how good they are for all flows."""
