"""Exact linear solving over small tables of fractions; exacttables.desk.answers is the way in."""
