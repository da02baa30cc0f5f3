"""The tests of midfall."""
