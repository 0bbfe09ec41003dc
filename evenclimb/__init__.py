"""Evenclimb: climbs in orders with joins and meets."""
