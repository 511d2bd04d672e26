"""Dotfield encodes bytes as QR symbols and reads symbols."""
