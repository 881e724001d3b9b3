"""Scopebind: a dynamic loader that binds symbols."""
