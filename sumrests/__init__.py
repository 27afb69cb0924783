"""Sumrests: sums of numbers, and what they leave."""
