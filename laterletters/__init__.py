"""Letters to be handed out at days, behind told happenings or behind other letters."""
