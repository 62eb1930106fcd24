"""The tests of readorder."""
