"""Freshparts: parts put anew by chances, beat by beat, told exactly."""
