"""Sidings: wagons that leave in order through blind tracks and through tracks, or wagons that show that they can't."""
