"""How much of hidden things is known, and what holds of it in all worlds."""
