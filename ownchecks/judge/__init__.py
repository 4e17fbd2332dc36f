"""Claims, and the papers that show them."""
