"""Tests of sizesreckoned."""
