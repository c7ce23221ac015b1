"""The tests of causehall: `python3 -m unittest discover -s tests -t .` runs them all."""
