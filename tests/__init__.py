"""The tests of mapstack."""
