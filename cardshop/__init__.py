"""Cardshop: a shop of card machines, and plans with the fewest goings."""
