"""Kitsleft: packs within packs and loose parts, and which numbers can be shown together."""
