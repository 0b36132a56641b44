"""The tests of latewords."""
