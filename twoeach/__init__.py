"""Twoeach: lines on boards of all sizes, and answers that spoil them."""
