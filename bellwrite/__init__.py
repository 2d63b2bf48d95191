"""Bellwrite: messages by the times of bells."""
