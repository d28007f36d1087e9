"""A desk that keeps lots by names, and sayings about them."""
