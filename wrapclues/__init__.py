"""Wrapclues: texts that are known only by how they were wrapped."""
