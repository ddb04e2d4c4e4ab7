"""Programs over services that return a bounded number of rows."""
