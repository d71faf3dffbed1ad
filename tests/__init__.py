"""The tests of keepwhole, run by `python3 -m unittest discover -s tests -t .`."""
