"""Piecesseen: languages judged by the short pieces of their texts."""
