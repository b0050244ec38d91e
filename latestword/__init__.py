"""Latestword: one book shared out to desks that seldom meet."""
