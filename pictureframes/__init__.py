"""What sequences of turns, cuts and added lines do to every picture."""
