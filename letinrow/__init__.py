"""Letinrow: a row in which friends are let in."""
