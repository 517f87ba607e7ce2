"""Heapfriends: books laid on top while their friends lie above them."""
