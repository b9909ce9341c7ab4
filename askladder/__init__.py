"""Askladder: programs that ask those above them."""
