"""Allonetree: folders on several machines, kept alike under programs that know nothing of it."""
