package resync

import "lamplight/api"

// counters are how often each error came, by its number.
type counters struct {
	times [12]int
}

func (c *counters) count(err api.Errno) {
	c.times[err]++
}
