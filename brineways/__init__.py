"""Brineways: brine led from basin to basin."""
