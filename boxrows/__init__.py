"""Rows of boxes that share a width, exactly and for all widths at once."""
