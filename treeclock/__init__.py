"""Treeclock: clocks of hands that part and come together."""
