"""Outpressed: the presser that overtakes every machine."""
