"""Evenpace: walkers at an even pace through gates that open by periods of their own."""
