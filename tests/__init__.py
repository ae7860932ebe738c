"""The tests of levelkin."""
