"""Pageshares: exact shares of pages of several kinds under random comings."""
