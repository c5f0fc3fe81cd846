"""Clockverdict: clocks that lie, and the time that all records leave."""
