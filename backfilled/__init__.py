"""Derived tables over rows that come late and are corrected."""
