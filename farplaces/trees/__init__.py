"""Trees: their texts and the ways in them."""
