"""Doletaper: an office of help, told to each coin."""
