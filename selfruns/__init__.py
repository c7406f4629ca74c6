"""Rows of two signs that tell the lengths of their own runs."""
