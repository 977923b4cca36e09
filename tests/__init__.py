"""The tests of stillfound."""
