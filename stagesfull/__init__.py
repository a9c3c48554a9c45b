"""Stagesfull: training a net cut into stages."""
