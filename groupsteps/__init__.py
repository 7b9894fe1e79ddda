"""Groupsteps: upgrading a running system of modules by switches that cannot be split."""
