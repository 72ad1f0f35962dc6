"""Quiethall: work that is handed on, and who tells that all is done."""
