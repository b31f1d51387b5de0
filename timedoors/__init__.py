"""timedoors: a game with doors through time, played as one plain machine."""
