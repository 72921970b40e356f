package beam

import (
	"woodgrain/api"
	"woodgrain/count"
)

// perState is how many clocks a state of the counter lasts.
const perState = 4

// clocks counts the clocks of a line: the counter goes on whenever its divider
// comes round.
type clocks struct {
	counter *count.Counter
	divider *count.Divider
}

// begin stands at clock 0.
func begin() clocks {
	return clocks{counter: count.Of(api.Clocks / perState), divider: count.By(perState)}
}

func (c *clocks) at() int { return c.counter.Count()*perState + c.divider.Count() }

func (c *clocks) tick() {
	if c.divider.Tick() {
		c.counter.Tick()
	}
}

// put goes to a clock, if there is such a one.
func (c *clocks) put(clock int) api.Errno {
	// Both are asked for together: the counter alone would move ahead of a
	// rest that the divider refuses.
	if !within(clock, 0, api.Clocks-1) {
		return api.ErrRange
	}
	c.counter.Set(clock / perState)
	c.divider.Set(clock % perState)
	return api.OK
}
