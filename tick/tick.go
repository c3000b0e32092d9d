// Package tick is oscillators: how fast each one's time goes.
package tick

import (
	"sort"

	"hayward/api"
)

const maxSteps = 64

// Good: may an oscillator's steps be?
func Good(list []api.Step) bool {
	if len(list) > maxSteps {
		return false
	}
	ahead := -1
	for _, s := range list {
		if s.At <= ahead || s.At > api.MaxTick || s.Rate < -api.MaxRate || s.Rate > api.MaxRate {
			return false
		}
		ahead = s.At
	}
	return true
}

// Local: what an oscillator has counted at a tick.
func Local(list []api.Step, t int) int {
	if t <= 0 {
		return 0
	}
	return parts(list, min(t, api.MaxTick)) / api.Unit
}

// parts: all that is counted in the ticks ahead of t, not yet divided, as what is left of one step counts on in the next one.
func parts(list []api.Step, t int) int {
	sum, from, rate := 0, 0, 0
	for _, s := range list {
		if s.At >= t {
			break
		}
		sum += (s.At - from) * (api.Unit + rate)
		from, rate = s.At, s.Rate
	}
	return sum + (t-from)*(api.Unit+rate)
}

// Global: the first tick at which an oscillator has counted so far.
func Global(list []api.Step, n int) int {
	// The last tick need not be looked at: it is the answer if it has counted n, and if none has. Time never goes back, as no rate is below -MaxRate.
	return sort.Search(api.MaxTick, func(t int) bool { return Local(list, t) >= n })
}
