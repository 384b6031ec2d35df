"""Hedging where trading costs: costhedge.desk.answers goes through a list of calls."""
