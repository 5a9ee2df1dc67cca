"""Indexwise: rows whose lengths stand in their kinds, and code that never looks."""
