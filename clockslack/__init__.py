"""Clockslack: logs of one cell whose clocks are off."""
