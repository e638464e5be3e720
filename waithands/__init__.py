"""Waithands: hands called and sent home by what waits."""
