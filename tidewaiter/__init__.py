"""Tidewaiter: moments, spans that the weather ends, and a keeper who is never caught out."""
