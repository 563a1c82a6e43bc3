"""Pastdesk: desks whose past may be rewritten."""
