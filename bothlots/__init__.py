"""Bothlots: which program steps let one thing stand on both sides of a cut."""
