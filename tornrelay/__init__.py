"""Tornrelay: telegraph houses that pass messages on by torn tapes."""
