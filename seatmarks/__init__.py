"""Things in a row, put in order by marks of few figures."""
