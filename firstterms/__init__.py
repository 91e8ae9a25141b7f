"""Firstterms: endless rows of counts that are equal as soon as their first terms are."""
