"""Exact linear solving, and derivatives through equations; exacttables.desk.answers is the way in."""
