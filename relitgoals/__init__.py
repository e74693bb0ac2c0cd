"""Relitgoals: how many notes a plan needs for goals about lamps that come again and again."""
