"""The tests of filedalike."""
