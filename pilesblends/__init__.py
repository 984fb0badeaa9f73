"""Stockpiles and blends, exactly."""
