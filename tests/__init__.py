"""The tests of oddfigures, for python3 -m unittest."""
