"""Trueword: rules that deal by what hands say, and payments by which no false word gains."""
