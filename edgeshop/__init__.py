"""Edgeshop: tools lent, worn and made sharp again."""
