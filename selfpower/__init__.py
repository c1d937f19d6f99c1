"""Programs over an arithmetic in which each element is its own n-th power."""
