"""Forkjoins: programs that fork copies of their cells and join them again, alike at every pace."""
