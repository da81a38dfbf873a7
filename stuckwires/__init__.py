"""Stuckwires: wires stuck at a worth, and the tests that find them."""
