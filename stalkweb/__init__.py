"""Stalkweb: spaces over a web, and what agrees along all ties."""
