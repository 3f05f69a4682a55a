"""Nearloops: loops over numbers that are equal when near."""
