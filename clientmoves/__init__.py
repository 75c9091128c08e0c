"""Clients of a member that can't go on, moved to others."""
