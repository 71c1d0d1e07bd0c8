"""Haulbell: long deeds of a small machine, broken by bells and gone on with."""
