"""Agedfiles: cleaners that delete by marks of time, decided for all rows of use."""
