"""Vellum: copies of copies, and the slips by which they part."""
