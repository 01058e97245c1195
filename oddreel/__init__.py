"""Oddreel: hands that mend themselves from any state."""
