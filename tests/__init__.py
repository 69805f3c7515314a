"""The tests of kitsleft."""
