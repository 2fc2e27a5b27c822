"""Sealedalike: what an onlooker can have of sealed things, and when two rows look alike."""
