"""Twoheaps: two heaps from which one takes from one, or from both almost alike, and who wins."""
