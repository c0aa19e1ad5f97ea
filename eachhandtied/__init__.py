"""Rows of trees of hands and tasks, matched by orders."""
