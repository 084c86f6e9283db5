"""Notejar: small notes kept for houses."""
