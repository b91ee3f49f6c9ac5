"""The tests of fewcorners."""
