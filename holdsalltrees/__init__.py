"""Holdsalltrees: one tree that holds all trees, and the one number of every endless game."""
