"""Tellsum: rows told back from sums of neighbours."""
