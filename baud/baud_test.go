package baud

import (
	"math"
	"math/rand"
	"slices"
	"testing"

	"hayward/api"
	"hayward/fire"
	"hayward/send"
	"hayward/tick"
	"hayward/uart"
)

const (
	farTick = 1 << 31 // the last tick from which on is measured
	farSpan = 1 << 40
	farAt   = 1 << 30 // the last time of its own at which a node sends
	fitRate = 10000   // the greatest rate at which the frame surely fits
)

var (
	fast = []api.Step{{Rate: 20000}}
	slow = []api.Step{{Rate: -20000}}
)

// spans: each two numbers are a span.
func spans(n ...int) []api.Span {
	var out []api.Span
	for i := 0; i+1 < len(n); i += 2 {
		out = append(out, api.Span{From: n[i], To: n[i+1]})
	}
	return out
}

// lowAt: a line that is low at these ticks alone.
func lowAt(ticks ...int) []api.Span {
	var out []api.Span
	for _, t := range ticks {
		out = append(out, api.Span{From: t, To: t + 1})
	}
	return out
}

// opens: the frame of round 0.
func opens(t *testing.T) api.Frame {
	t.Helper()
	b, e := fire.Code(0)
	if e != api.OK {
		t.Fatal(e)
	}
	return uart.Put(b, true)
}

func isLow(line []api.Span, t int) bool {
	return slices.ContainsFunc(line, func(s api.Span) bool { return s.From <= t && t < s.To })
}

// noise: spans of any kind, up to a tick below 320.
func noise(r *rand.Rand) []api.Span {
	out := make([]api.Span, 0, 25)
	for range r.Intn(25) {
		at := r.Intn(320) - 20
		out = append(out, api.Span{From: at, To: at - 2 + r.Intn(16)})
	}
	return out
}

// script: an oscillator whose steps, at most so fast or slow, come close together from a tick on.
func script(r *rand.Rand, at, most int) []api.Step {
	list := make([]api.Step, 0, 20)
	for range r.Intn(20) {
		list = append(list, api.Step{At: at, Rate: r.Intn(2*most+1) - most})
		at += 1 + r.Intn(60)
	}
	return list
}

// P7.1: lines written out.
func TestFalls(t *testing.T) {
	zero := send.Spans(nil, 100, opens(t))
	for _, c := range []struct {
		name       string
		line       []api.Span
		from, most int
		want       []int
	}{
		{"no spans", nil, 0, 9, nil},
		{"empty spans", []api.Span{}, 0, 9, nil},
		{"spans without ticks", spans(8, 8, 9, 7), 0, 9, nil},
		{"the frame of round 0", zero, 0, 9, []int{100, 132, 164, 196, 228}},
		{"just so many", zero, 0, 5, []int{100, 132, 164, 196, 228}},
		{"one fewer", zero, 0, 4, []int{100, 132, 164, 196}},
		{"one", zero, 0, 1, []int{100}},
		{"none", zero, 0, 0, nil},
		{"below none", zero, 0, -1, nil},
		{"far below none", zero, 0, math.MinInt, nil},
		{"all there are", zero, 0, math.MaxInt, []int{100, 132, 164, 196, 228}},
		{"from the first one on", zero, 100, 2, []int{100, 132}},
		{"from behind the first one on", zero, 101, 2, []int{132, 164}},
		{"from the last one on", zero, 228, 2, []int{228}},
		{"from behind the last one on", zero, 229, 2, nil},
		{"spans in any order", lowAt(9, 3, 6), 0, 2, []int{3, 6}},
		{"the same span twice", spans(3, 6, 3, 6), 0, 9, []int{3}},
		{"spans that overlap", spans(3, 8, 5, 12), 0, 9, []int{3}},
		{"spans that touch", spans(8, 12, 3, 8), 0, 9, []int{3}},
		{"spans a tick apart", spans(9, 12, 3, 8), 0, 9, []int{3, 9}},
		{"one in another", spans(3, 12, 5, 7), 0, 9, []int{3}},
		{"from within a span on", spans(3, 8), 4, 9, nil},
		{"from where two touch on", spans(3, 8, 8, 12), 8, 9, nil},
		{"low from 0 on", spans(0, 5), 0, 9, []int{0}},
		{"low from ahead of 0 on", spans(-1, 5), 0, 9, nil},
		{"low for ever", spans(-farSpan, farSpan), 0, 9, nil},
		{"far", lowAt(farTick-1, farTick, farTick+1, farTick+3, farSpan-1), farTick, 9, []int{farTick + 3, farSpan - 1}},
	} {
		if got := Falls(c.line, c.from, c.most); !slices.Equal(got, c.want) {
			t.Errorf("%s: Falls is %v", c.name, got)
		}
	}
}

// fallen: Falls as the words have it, by going from tick to tick, up to one behind all noise.
func fallen(line []api.Span, from, most int) []int {
	var out []int
	for t := from; t < 400 && len(out) < most; t++ {
		if isLow(line, t) && !isLow(line, t-1) {
			out = append(out, t)
		}
	}
	return out
}

// P7.1.
func TestFallsByTicks(t *testing.T) {
	r := rand.New(rand.NewSource(7))
	for range 5000 {
		line, from, most := noise(r), r.Intn(330), r.Intn(12)-2
		if got, want := Falls(line, from, most), fallen(line, from, most); !slices.Equal(got, want) {
			t.Fatalf("%v from %d, %d: %v, not %v", line, from, most, got, want)
		}
	}
}

// P7.2: the document's example, where the first fall has to be, and how many there have to be.
func TestMeasure(t *testing.T) {
	zero := send.Spans(nil, 100, opens(t))
	four, five := lowAt(10, 20, 30, 40), lowAt(10, 20, 30, 40, 50)
	for _, c := range []struct {
		name     string
		line     []api.Span
		list     []api.Step
		from, to int
		want     int
		e        api.Errno
	}{
		{"example", zero, nil, 0, 3000, 128, api.OK},
		{"no spans", nil, nil, 0, farTick, 0, api.ErrNone},
		{"a span without ticks", spans(9, 7), nil, 0, 100, 0, api.ErrNone},
		{"low for ever", spans(-farSpan, farSpan), nil, 0, farTick, 0, api.ErrNone},
		{"up to its beginning", zero, nil, 0, 100, 0, api.ErrNone},
		{"up to behind its beginning", zero, nil, 0, 101, 128, api.OK},
		{"from its beginning on", zero, nil, 100, 101, 128, api.OK},
		{"nowhere", zero, nil, 100, 100, 0, api.ErrNone},
		{"to ahead of from", zero, nil, 100, 99, 0, api.ErrNone},
		{"from behind its beginning, up to the next fall", zero, nil, 101, 132, 0, api.ErrNone},
		{"from behind its beginning", zero, nil, 101, 133, 0, api.ErrGap},
		{"from its last fall on", zero, nil, 228, 229, 0, api.ErrGap},
		{"from behind its last fall", zero, nil, 229, farTick, 0, api.ErrNone},
		{"four falls", four, nil, 0, 3000, 0, api.ErrGap},
		{"four falls, none in time", four, nil, 0, 10, 0, api.ErrNone},
		{"five falls", five, nil, 0, 3000, 40, api.OK},
		{"five falls, one in time", five, nil, 0, 11, 40, api.OK},
		{"the first five of six", lowAt(10, 20, 30, 40, 50, 70), nil, 0, 3000, 40, api.OK},
		{"the last five of six", lowAt(10, 20, 30, 40, 50, 70), nil, 11, 3000, 50, api.OK},
		{"five spans, two of which touch", spans(10, 20, 20, 25, 30, 35, 40, 45, 50, 55), nil, 0, 3000, 0, api.ErrGap},
		{"five spans in any order", lowAt(50, 10, 40, 20, 31), nil, 0, 3000, 40, api.OK},
		{"as close as can be", lowAt(8, 6, 4, 2, 0), nil, 0, 1, 8, api.OK},
		{"another code", send.Spans(nil, 100, uart.Put(51, true)), nil, 0, 3000, 0, api.ErrGap},
		{"by a fast one: from 102 to 232.56", zero, fast, 0, 3000, 130, api.OK},
		{"by a slow one: from 98 to 223.44", zero, slow, 0, 3000, 125, api.OK},
		{"by a slow one: from 9.8 to 49", five, slow, 0, 3000, 40, api.OK},
		{"fast ahead of it alone", zero, []api.Step{{Rate: 20000}, {At: 100}}, 0, 3000, 128, api.OK},
		{"fast behind it alone", zero, []api.Step{{At: 228, Rate: 20000}}, 0, 3000, 128, api.OK},
		{"fast for its half", zero, []api.Step{{At: 164, Rate: 20000}}, 0, 3000, 129, api.OK},
		{"far", lowAt(farTick-1, farTick+1, farTick+3, farTick+5, farTick+7), nil, 0, farTick, 8, api.OK},
		{"too far", lowAt(farTick, farTick+2, farTick+4, farTick+6, farTick+8), nil, 0, farTick, 0, api.ErrNone},
		{"the last fall is where nothing is counted any more", lowAt(2, 4, 6, 8, farSpan-1), nil, 0, farTick, api.MaxTick - 2, api.OK},
	} {
		if got, e := Measure(c.line, c.list, c.from, c.to); got != c.want || e != c.e {
			t.Errorf("%s: Measure is %d, %v", c.name, got, e)
		}
	}
}

// measured: Measure as the words have it, by going from tick to tick.
func measured(line []api.Span, list []api.Step, from, to int) (int, api.Errno) {
	all := fallen(line, from, 400)
	if len(all) == 0 || all[0] >= to {
		return 0, api.ErrNone
	}
	if len(all) < 5 {
		return 0, api.ErrGap
	}
	return tick.Local(list, all[4]) - tick.Local(list, all[0]), api.OK
}

// P7.2.
func TestMeasureByTicks(t *testing.T) {
	r := rand.New(rand.NewSource(72))
	count := map[api.Errno]int{}
	for range 5000 {
		line, list := noise(r), script(r, r.Intn(50), api.MaxRate)
		from := r.Intn(200)
		to := max(0, from-10+r.Intn(100))
		want, wantE := measured(line, list, from, to)
		count[wantE]++
		if got, e := Measure(line, list, from, to); got != want || e != wantE {
			t.Fatalf("%v by %v from %d to %d: %d, %v, not %d, %v", line, list, from, to, got, e, want, wantE)
		}
	}
	if count[api.OK] < 300 || count[api.ErrGap] < 300 || count[api.ErrNone] < 300 {
		t.Error(count)
	}
}

// P7.2.
func TestFits(t *testing.T) {
	for n := -1000; n <= 1000; n++ {
		if Fits(n) != (n > 123 && n < 133) {
			t.Error(n)
		}
	}
	for _, n := range []int{math.MinInt, math.MinInt + 128, -128, farTick, api.MaxTick + 128, math.MaxInt - 128, math.MaxInt} {
		if Fits(n) {
			t.Error(n)
		}
	}
}

// surely: the frame of round 0, which one sends, is measured by another one as what fits.
func surely(t *testing.T, sends, hears []api.Step, at int) int {
	t.Helper()
	line := send.Spans(sends, at, opens(t))
	begin := line[0].From
	n, e := Measure(line, hears, max(0, begin-30), begin+1)
	if e != api.OK || !Fits(n) {
		t.Fatalf("sent by %v at %d: measured by %v as %d, %v", sends, at, hears, n, e)
	}
	return n
}

// P7.3: rates around the ends and the middle, from wherever it is sent; all that fits is met.
func TestFrameFits(t *testing.T) {
	met := map[int]int{}
	rates := []int{-fitRate, -fitRate + 1, -5000, 0, 1, 5000, fitRate - 1, fitRate}
	for _, a := range rates {
		for _, b := range rates {
			sends, hears := []api.Step{{Rate: a}}, []api.Step{{Rate: b}}
			for at := range 300 {
				met[surely(t, sends, hears, at)]++
				met[surely(t, sends, hears, farAt-at)]++
			}
		}
	}
	for n := 124; n <= 132; n++ {
		if met[n] == 0 {
			t.Error(n, met)
		}
	}
}

// P7.3: rates that change, as often as may be.
func TestFrameFitsAnybody(t *testing.T) {
	r := rand.New(rand.NewSource(73))
	for range 4000 {
		at := r.Intn(600)
		surely(t, script(r, r.Intn(at+1), fitRate), script(r, r.Intn(at+1), fitRate), at)
	}
}

// Nothing is promised of steps that may not be, nor of numbers beyond the bounds, but that the calls end.
func TestAnything(t *testing.T) {
	ends := []int{math.MinInt, -1, 0, 1, farTick, api.MaxTick, math.MaxInt}
	for _, a := range ends {
		for _, b := range ends {
			line := append(lowAt(2, 4, 6, 8, 10), api.Span{From: a, To: b}, api.Span{From: b, To: a})
			list := []api.Step{{At: 9, Rate: a}, {At: b, Rate: a}, {At: 3, Rate: b}}
			for _, n := range ends {
				Falls(line, n, a)
				Falls(nil, n, a)
				Measure(line, list, n, a)
				Measure(line, nil, a, n)
				Measure(nil, list, b, n)
			}
		}
	}
}

// R4: what is handed in stays, its spare room included, and what is answered is nobody else's.
func TestArgumentsStay(t *testing.T) {
	line := spans(60, 70, 20, 30, 0, 9, 5, 7, 40, 44, 50, 55, 80, 90)
	list := []api.Step{{At: 1, Rate: 2}, {At: 3, Rate: 4}, {At: 5, Rate: 6}}
	wasLine, wasList := slices.Clone(line), slices.Clone(list)
	one, other := Falls(line[:6], 0, 9), Falls(line[:6], 0, 9)
	Measure(line[:6], list[:2], 0, 100)
	for i := range one[:cap(one)] {
		one[:cap(one)][i] = -1
	}
	if !slices.Equal(line, wasLine) || !slices.Equal(list, wasList) || !slices.Equal(other, []int{0, 20, 40, 50, 60}) {
		t.Error(line, list, other)
	}
}
