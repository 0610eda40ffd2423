"""Handedworld: what programs can be made to do that hand everything on."""
