"""Bowfloor: floors of crossings, two ways in and two ways out, and the bows around their rim."""
