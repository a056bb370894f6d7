"""Chargeturns: parts that hold charge, and what joinings of them lead to."""
