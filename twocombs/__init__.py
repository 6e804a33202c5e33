"""A bar that climbs between two combs."""
