"""Loopstow: the values of a loop in few slots, for any number of rounds."""
