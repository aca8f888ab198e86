"""Tworooms: stones on webs, companies that stand, and the rows that take the others."""
