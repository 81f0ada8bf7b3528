"""Turns of a duel: phases, steps and priority."""
