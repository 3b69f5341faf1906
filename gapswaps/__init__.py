"""Orders whose neighbours may change places by what stands between them."""
