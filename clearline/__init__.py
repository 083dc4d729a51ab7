"""A signal box with which every train can always come home, and none meets another."""
