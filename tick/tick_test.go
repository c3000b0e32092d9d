package tick

import (
	"math"
	"slices"
	"testing"

	"hayward/api"
)

// rising: so many steps, one a tick.
func rising(n int) []api.Step {
	list := make([]api.Step, n)
	for i := range list {
		list[i].At = i
	}
	return list
}

// P1.1.
func TestGood(t *testing.T) {
	for _, c := range []struct {
		name string
		list []api.Step
		want bool
	}{
		{"nil", nil, true},
		{"empty", []api.Step{}, true},
		{"one", []api.Step{{At: 5, Rate: 7}}, true},
		{"64 steps", rising(64), true},
		{"65 steps", rising(65), false},
		{"at 0", []api.Step{{At: 0}}, true},
		{"at below 0", []api.Step{{At: -1}}, false},
		{"least at", []api.Step{{At: math.MinInt}}, false},
		{"at the last tick", []api.Step{{At: api.MaxTick}}, true},
		{"at behind the last tick", []api.Step{{At: api.MaxTick + 1}}, false},
		{"greatest at", []api.Step{{At: math.MaxInt}}, false},
		{"rising", []api.Step{{At: 0}, {At: 1}, {At: api.MaxTick}}, true},
		{"same at", []api.Step{{At: 3}, {At: 3}}, false},
		{"same at 0", []api.Step{{At: 0}, {At: 0}}, false},
		{"falling", []api.Step{{At: 3}, {At: 2}}, false},
		{"below 0 behind another", []api.Step{{At: 3}, {At: -1}}, false},
		{"falling at the end", []api.Step{{At: 1}, {At: 9}, {At: 8}}, false},
		{"greatest rate", []api.Step{{Rate: 20000}}, true},
		{"rate above", []api.Step{{Rate: 20001}}, false},
		{"least rate", []api.Step{{Rate: -20000}}, true},
		{"rate below", []api.Step{{Rate: -20001}}, false},
		{"rates at their ends", []api.Step{{Rate: math.MaxInt}, {At: 1, Rate: math.MinInt}}, false},
		{"last rate above", []api.Step{{At: 1}, {At: 2}, {At: 3, Rate: 20001}}, false},
	} {
		if got := Good(c.list); got != c.want {
			t.Errorf("%s: Good is %v", c.name, got)
		}
	}
}

// P1.2: the document's example, and edges.
func TestLocal(t *testing.T) {
	fast := []api.Step{{Rate: 1000}}
	most, least := []api.Step{{Rate: 20000}}, []api.Step{{Rate: -20000}}
	late := []api.Step{{At: 100, Rate: 20000}}
	last := []api.Step{{At: api.MaxTick, Rate: 20000}}
	for _, c := range []struct {
		name string
		list []api.Step
		t    int
		want int
	}{
		{"example", fast, 1000, 1001},
		{"a tick ahead of it", fast, 999, 999},
		{"none at 0", nil, 0, 0},
		{"none", nil, 12345, 12345},
		{"below 0", most, -1, 0},
		{"least tick", least, math.MinInt, 0},
		{"0", most, 0, 0},
		{"last tick", nil, api.MaxTick, api.MaxTick},
		{"behind the last tick", nil, api.MaxTick + 1, api.MaxTick},
		{"greatest tick", nil, math.MaxInt, api.MaxTick},
		{"fast up to the last tick", most, api.MaxTick, 4380866641},
		{"fast behind it", most, math.MaxInt, 4380866641},
		{"slow up to the last tick", least, api.MaxTick, 4209067950},
		{"slow at first", least, 1, 0},
		{"slow", least, 50, 49},
		{"ahead of the first step", late, 99, 99},
		{"at the first step", late, 100, 100},
		{"half of one more", late, 149, 149},
		{"one more", late, 150, 151},
		{"a step at the last tick", last, api.MaxTick, api.MaxTick},
		{"a step at the last tick, behind it", last, math.MaxInt, api.MaxTick},
	} {
		if got := Local(c.list, c.t); got != c.want {
			t.Errorf("%s: Local is %d, not %d", c.name, got, c.want)
		}
	}
}

// P1.2: what is left of one step counts on in the next one.
func TestLocalKeepsParts(t *testing.T) {
	list := make([]api.Step, 0, 40)
	for i := range 40 {
		list = append(list, api.Step{At: 10 * i, Rate: 10000 + i%2})
	}
	// 400 ticks: 400000000, and 200 times 10000 and 200 times 10001 more.
	if got := Local(list, 400); got != 404 {
		t.Errorf("Local is %d", got)
	}
	if got := Global(list, 404); got != 400 {
		t.Errorf("Global is %d", got)
	}
}

// P1.2: the document's example, and edges.
func TestGlobal(t *testing.T) {
	fast := []api.Step{{Rate: 1000}}
	most, least := []api.Step{{Rate: 20000}}, []api.Step{{Rate: -20000}}
	for _, c := range []struct {
		name string
		list []api.Step
		n    int
		want int
	}{
		{"example", fast, 1001, 1000},
		{"passed over", fast, 1000, 1000},
		{"ahead of it", fast, 999, 999},
		{"none", nil, 777, 777},
		{"0", most, 0, 0},
		{"below 0", most, -1, 0},
		{"least", least, math.MinInt, 0},
		{"1", most, 1, 1},
		{"slow", least, 1, 2},
		{"slow for long", least, 49, 50},
		{"ahead of the last tick", nil, api.MaxTick - 1, api.MaxTick - 1},
		{"at the last tick", nil, api.MaxTick, api.MaxTick},
		{"never", nil, api.MaxTick + 1, api.MaxTick},
		{"slow, never", least, api.MaxTick, api.MaxTick},
		{"slow, at the last tick", least, 4209067950, api.MaxTick},
		{"fast, at the last tick", most, 4380866641, api.MaxTick},
		{"fast, far", most, 4380866640, api.MaxTick - 1},
		{"greatest", most, math.MaxInt, api.MaxTick},
	} {
		if got := Global(c.list, c.n); got != c.want {
			t.Errorf("%s: Global is %d, not %d", c.name, got, c.want)
		}
	}
}

// scripts: oscillators of many kinds.
func scripts() [][]api.Step {
	out := [][]api.Step{nil, {{Rate: 20000}}, {{Rate: -20000}}, {{At: 1, Rate: 1}}, {{At: 700, Rate: -1}}}
	for i := range 30 {
		var list []api.Step
		at := i % 3
		for k := range 2 * i {
			list = append(list, api.Step{At: at, Rate: (i*7919+k*104729)%40001 - 20000})
			at += 1 + (i*31+k*17)%40
		}
		out = append(out, list)
	}
	return out
}

// P1.2: tick by tick, as the words have it.
func TestByTicks(t *testing.T) {
	for i, list := range scripts() {
		if !Good(list) {
			t.Fatal("script", i)
		}
		sum, rate, k, told := 0, 0, 0, 0
		for at := range 2000 {
			if got := Local(list, at); got != sum/api.Unit {
				t.Fatalf("script %d: Local of %d is %d, not %d", i, at, got, sum/api.Unit)
			}
			for ; told <= sum/api.Unit; told++ {
				if got := Global(list, told); got != at {
					t.Fatalf("script %d: Global of %d is %d, not %d", i, told, got, at)
				}
			}
			if k < len(list) && list[k].At == at {
				rate = list[k].Rate
				k++
			}
			sum += api.Unit + rate
		}
	}
}

// P1.2: Global is the least tick, wherever it lies.
func TestGlobalIsLeast(t *testing.T) {
	for i, list := range scripts() {
		for n := 1; n < api.MaxTick+api.MaxTick/40; n = 3*n + 1 {
			at := Global(list, n)
			if at < api.MaxTick && Local(list, at) < n || at > api.MaxTick {
				t.Errorf("script %d: at %d is less than %d", i, at, n)
			}
			if Local(list, at-1) >= n {
				t.Errorf("script %d: %d is ahead of %d", i, n, at)
			}
		}
	}
}

// Nothing is promised of steps that may not be, but that the calls end.
func TestAnySteps(t *testing.T) {
	ends := []int{math.MinInt, -1, 0, 1, api.MaxTick, math.MaxInt}
	for _, at := range ends {
		for _, rate := range ends {
			list := []api.Step{{At: 9, Rate: rate}, {At: at, Rate: rate}, {At: 3, Rate: rate}}
			for _, n := range ends {
				Good(list)
				Local(list, n)
				Global(list, n)
			}
		}
	}
}

// R4: what is handed in stays, its spare room included.
func TestStepsStay(t *testing.T) {
	room := []api.Step{{At: 1, Rate: 2}, {At: 3, Rate: 4}, {At: 5, Rate: 6}}
	was := slices.Clone(room)
	Good(room[:2])
	Local(room[:2], 100)
	Global(room[:2], 100)
	if !slices.Equal(room, was) {
		t.Error(room)
	}
}
