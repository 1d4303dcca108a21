"""Honeyturns: ants that take turns at a vine whose year comes round."""
