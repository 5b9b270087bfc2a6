"""The tests of blackbars."""
