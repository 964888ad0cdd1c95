"""Programs of rules over a bag of facts: reading, checking, writing and matching them."""
