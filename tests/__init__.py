"""The program's tests."""
