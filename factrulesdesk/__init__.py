"""Programs of rules over a bag of facts: reading, checking, writing, matching and using them."""
