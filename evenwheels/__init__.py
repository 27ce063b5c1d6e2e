"""Evenwheels: wheels that touch one another, share what meets, and roll on."""
