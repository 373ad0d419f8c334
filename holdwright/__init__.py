"""Holdwright: programs whose writings are shown."""
