"""Aheadword: the best words that begin as asked, best first."""
