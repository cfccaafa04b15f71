"""Keptbowls: whole tables that make finitely many products, by a bowl they keep."""
