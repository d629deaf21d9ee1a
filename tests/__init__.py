"""The tests of takenjoined."""
