"""Stemkeep: lasting arrays by any keys, locks on stems, dealings, and programs of rows."""
