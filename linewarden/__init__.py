"""Linewarden: near-stores with lines over one far store."""
