"""Stemkeep: lasting arrays by any keys, and locks on their stems."""
