"""What programs can be made to do, with papers that show it, and duels by them."""
