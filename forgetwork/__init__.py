"""Forgetwork: how much building again is surely enough when people ask to be forgotten."""
