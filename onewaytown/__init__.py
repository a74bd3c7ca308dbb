"""Onewaytown: towns made one-way."""
