"""Whoiswho: records led together by likeness."""
