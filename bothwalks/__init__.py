"""Machines that go on by chance, compared by walking both at once."""
