"""Queuehold: a queue on a disk that may stop."""
