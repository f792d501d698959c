"""Onecable: sharing one charging cable, for all comings of cars."""
