"""The tests of addnests."""
