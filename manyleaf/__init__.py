"""Manyleaf: one book that is many books, written through views."""
