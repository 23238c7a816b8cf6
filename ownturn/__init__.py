"""Ownturn: rows rearranged within their own room."""
