"""The tests of evenpace; run them with .ci/run."""
