"""Meetdesks: one machine told by desks that never see the whole."""
