"""Freshsheet: a book of sheets, and papers that show that it is fresh."""
