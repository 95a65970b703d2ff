"""Switchlamps: lamps turned by switches, and presses that bring what is asked."""
