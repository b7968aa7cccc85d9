"""Tracked documents as text: the one written form, its readers and its faults."""
