"""Rookborders: closed lines on squares, and the tables that spared rooks tell of them."""
