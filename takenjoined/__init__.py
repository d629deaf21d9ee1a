"""Takenjoined: webs whose ties are taken away or joined, and all their paintings."""
