"""Joinload: pieces of code joined, loaded at any place, and run."""
