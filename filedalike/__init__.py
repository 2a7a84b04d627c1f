"""A mail house whose rule books are judged for all orders of events."""
