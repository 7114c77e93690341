"""Labelplace: names beside points on a sheet of cells."""
