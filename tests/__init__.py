"""Tests of the package, run by unittest from the top of the repository."""
