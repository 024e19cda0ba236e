"""Chancehouse: machines of chance, told exactly."""
