"""Surecrowd: the most ties of a web without a crowd of one more than told, and what any web has instead."""
