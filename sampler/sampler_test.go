package sampler

import (
	"math"
	"math/rand"
	"slices"
	"testing"

	"hayward/api"
	"hayward/send"
	"hayward/tick"
	"hayward/uart"
)

const (
	farTick = 1 << 31 // the last tick from which on is heard
	farSpan = 1 << 40
	farAt   = 1 << 30 // the last time of its own at which a node sends
	mostOff = 10000   // the greatest rate at which a frame is surely heard as it is
)

var (
	fast = []api.Step{{Rate: 20000}}
	slow = []api.Step{{Rate: -20000}}
)

// spans: each two numbers are a span.
func spans(n ...int) []api.Span {
	var out []api.Span
	for i := 0; i+1 < len(n); i += 2 {
		out = append(out, api.Span{From: n[i], To: n[i+1]})
	}
	return out
}

// lowAt: a line that is low at these ticks alone.
func lowAt(ticks ...int) []api.Span {
	var out []api.Span
	for _, t := range ticks {
		out = append(out, api.Span{From: t, To: t + 1})
	}
	return out
}

// allBut: a frame that is high but for these bits.
func allBut(low ...int) api.Frame {
	var f api.Frame
	for i := range f {
		f[i] = !slices.Contains(low, i)
	}
	return f
}

// P5.1: lines written out, without drift and with it.
func TestBits(t *testing.T) {
	for _, c := range []struct {
		name string
		line []api.Span
		list []api.Step
		from int
		want api.Frame
	}{
		{"no spans", nil, nil, 0, allBut()},
		{"empty spans", []api.Span{}, []api.Step{}, 0, allBut()},
		{"a span without ticks", spans(9, 7, 8, 8), nil, 0, allBut()},
		{"low for ever", spans(-farSpan, farSpan), nil, 0, api.Frame{}},
		{"all but the looks", spans(0, 7, 10, 23, 26, 39), nil, 0, allBut()},
		{"bit 0", spans(7, 10), nil, 0, allBut(0)},
		{"bit 10", spans(167, 170), nil, 0, allBut(10)},
		{"a bit behind the last one", spans(170, 200), nil, 0, allBut()},
		{"ahead of it", spans(0, 100), nil, 100, allBut()},
		{"from amid a low span", spans(0, 110), nil, 100, allBut(0)},
		{"from 100", spans(107, 110, 155, 158), nil, 100, allBut(0, 3)},
		{"spans in any order, one in another", spans(55, 57, 0, 20, 7, 9), nil, 0, allBut(0, 3)},
		{"looks by two spans", lowAt(9, 7), nil, 0, allBut(0)},
		{"fast, bit 10", lowAt(164, 165), fast, 0, allBut(10)},
		{"fast, one look only", lowAt(164, 167, 168), fast, 0, allBut()},
		{"slow, bit 10", lowAt(172, 173), slow, 0, allBut(10)},
		{"slow, one look only", lowAt(167, 168, 171), slow, 0, allBut()},
		{"fast, from 1000, where it has counted 1020", lowAt(1164, 1165), fast, 1000, allBut(10)},
		{"fast, two looks at one tick", lowAt(50), fast, 43, allBut(0)},
		{"fast, one look at the tick behind it", lowAt(51), fast, 43, allBut()},
		{"slow, a tick between two looks", lowAt(49, 50), slow, 40, allBut()},
		{"slow only within bit 10", lowAt(168, 169), []api.Step{{At: 160, Rate: -20000}}, 0, allBut(10)},
		{"fast ahead of it", lowAt(107, 108), []api.Step{{Rate: 20000}, {At: 100}}, 100, allBut(0)},
		{"far", lowAt(farTick+7, farTick+9), nil, farTick, allBut(0)},
	} {
		if got := Bits(c.line, c.list, c.from); got != c.want {
			t.Errorf("%s: Bits is %v", c.name, got)
		}
	}
}

// P5.1: of each bit, all that three looks may see, and that nothing else is looked at.
func TestBitsMajority(t *testing.T) {
	for bit := range api.Bits {
		for seen := range 1 << 5 {
			// The five ticks around the middle: the first and the last one aren't looked at.
			var line []api.Span
			low := 0
			for i := range 5 {
				if seen>>i&1 == 1 {
					line = append(line, lowAt(1000+16*bit+6+i)...)
					if i >= 1 && i <= 3 {
						low++
					}
				}
			}
			want := allBut()
			want[bit] = low < 2
			if got := Bits(line, nil, 1000); got != want {
				t.Fatalf("bit %d, %v: %v", bit, line, got)
			}
		}
	}
}

// script: an oscillator whose steps, at most so fast or slow, come close together from a tick on.
func script(r *rand.Rand, at, most int) []api.Step {
	list := make([]api.Step, 0, 20)
	for range r.Intn(20) {
		list = append(list, api.Step{At: at, Rate: r.Intn(2*most+1) - most})
		at += 1 + r.Intn(60)
	}
	return list
}

// noise: spans of any kind around a frame that begins at a tick.
func noise(r *rand.Rand, from int) []api.Span {
	var out []api.Span
	for range r.Intn(25) {
		at := from - 20 + r.Intn(230)
		out = append(out, api.Span{From: at, To: at - 2 + r.Intn(16)})
	}
	return out
}

func isLow(line []api.Span, t int) bool {
	return slices.ContainsFunc(line, func(s api.Span) bool { return s.From <= t && t < s.To })
}

// heard: Bits as the words have it, by going from tick to tick.
func heard(line []api.Span, list []api.Step, from int) api.Frame {
	var f api.Frame
	n := tick.Local(list, from)
	for i := range f {
		low := 0
		for k := 7; k <= 9; k++ {
			now := from
			for tick.Local(list, now) < n+16*i+k {
				now++
			}
			if isLow(line, now) {
				low++
			}
		}
		f[i] = low < 2
	}
	return f
}

// P5.1.
func TestBitsByTicks(t *testing.T) {
	r := rand.New(rand.NewSource(5))
	for range 2000 {
		from := r.Intn(600)
		list, line := script(r, r.Intn(from+1), api.MaxRate), noise(r, from)
		if got, want := Bits(line, list, from), heard(line, list, from); got != want {
			t.Fatalf("%v by %v from %d: %v, not %v", line, list, from, got, want)
		}
	}
}

// P5.1: wherever it begins, up to the last tick, by what is counted at one rate.
func TestBitsFar(t *testing.T) {
	r := rand.New(rand.NewSource(51))
	for range 1000 {
		from, rate := farTick-r.Intn(1000), r.Intn(2*api.MaxRate+1)-api.MaxRate
		parts := api.Unit + rate
		n, line, want := from*parts/api.Unit, []api.Span{}, allBut()
		for i := range want {
			want[i] = r.Intn(2) == 0
			if !want[i] {
				// Up to the first look's tick and behind the last one's: that counted is at least so much, rounded up.
				first := ((n+16*i+7)*api.Unit + parts - 1) / parts
				last := ((n+16*i+9)*api.Unit + parts - 1) / parts
				line = append(line, api.Span{From: first, To: last + 1})
			}
		}
		if got := Bits(line, []api.Step{{Rate: rate}}, from); got != want {
			t.Fatalf("rate %d from %d: %v, not %v", rate, from, got, want)
		}
	}
}

// P5.2: the document's example, where a frame has to begin, and what is wrong with it.
func TestHear(t *testing.T) {
	seven := send.Spans(nil, 100, uart.Put(7, false))
	two := slices.Concat(seven, send.Spans(nil, 324, uart.Put(200, true)))
	for _, c := range []struct {
		name     string
		line     []api.Span
		list     []api.Step
		from, to int
		b        byte
		odd      bool
		e        api.Errno
	}{
		{"example", lowAt(5), nil, 0, 10, 0, false, api.ErrForm},
		{"no spans", nil, nil, 0, farTick, 0, false, api.ErrNone},
		{"a span without ticks", spans(5, 5, 9, 7), nil, 0, 100, 0, false, api.ErrNone},
		{"even", seven, nil, 0, 3000, 7, false, api.OK},
		{"odd", send.Spans(nil, 100, uart.Put(7, true)), nil, 0, 3000, 7, true, api.OK},
		{"0", send.Spans(nil, 100, uart.Put(0, false)), nil, 0, 3000, 0, false, api.OK},
		{"255", send.Spans(nil, 100, uart.Put(255, true)), nil, 0, 3000, 255, true, api.OK},
		{"up to its beginning", seven, nil, 0, 100, 0, false, api.ErrNone},
		{"up to behind its beginning", seven, nil, 0, 101, 7, false, api.OK},
		{"from its beginning on", seven, nil, 100, 101, 7, false, api.OK},
		{"from a tick ahead of it", seven, nil, 99, 101, 7, false, api.OK},
		{"from within bit 0", seven, nil, 101, 116, 0, false, api.ErrNone},
		{"nowhere", seven, nil, 100, 100, 0, false, api.ErrNone},
		{"to ahead of from", seven, nil, 101, 100, 0, false, api.ErrNone},
		{"low from the beginning on", spans(0, 16), nil, 0, 16, 255, true, api.OK},
		{"low from ahead of the beginning on", spans(-1, 16), nil, 0, 16, 0, false, api.ErrNone},
		{"low for ever", spans(-farSpan, farSpan), nil, 0, farTick, 0, false, api.ErrNone},
		{"the first of two", two, nil, 0, 3000, 7, false, api.OK},
		{"the second of two", two, nil, 260, 3000, 200, true, api.OK},
		{"up to the second of two", two, nil, 260, 324, 0, false, api.ErrNone},
		{"the second one ahead in the list", spans(400, 416, 100, 260), nil, 0, 3000, 0, false, api.OK},
		{"the first fall is no frame", spans(20, 21, 40, 200), nil, 0, 3000, 0, false, api.ErrForm},
		{"bit 0 is low at one look", spans(100, 108), nil, 0, 3000, 0, false, api.ErrForm},
		{"bit 0 is low at two looks", spans(100, 109), nil, 0, 3000, 255, true, api.OK},
		{"bit 10 is low", spans(100, 116, 260, 276), nil, 0, 3000, 0, false, api.ErrForm},
		{"bit 10 is low at one look", spans(100, 116, 260, 268), nil, 0, 3000, 255, true, api.OK},
		{"bit 10 is low at two looks", spans(100, 116, 260, 269), nil, 0, 3000, 0, false, api.ErrForm},
		{"all is low", spans(100, 276), nil, 0, 3000, 0, false, api.ErrForm},
		{"a bit of the byte is low", spans(100, 116, 132, 148), nil, 0, 3000, 253, false, api.OK},
		{"by a fast one", spans(1000, 1016), fast, 990, 1010, 255, true, api.OK},
		{"bit 10 is low to a fast one", spans(1000, 1016, 1164, 1166), fast, 990, 1010, 0, false, api.ErrForm},
		{"it isn't, to a slow one", spans(1000, 1016, 1164, 1166), slow, 990, 1010, 255, true, api.OK},
		{"far", spans(farTick-1, farTick+15), nil, 0, farTick, 255, true, api.OK},
		{"too far", spans(farTick, farTick+16), nil, 0, farTick, 0, false, api.ErrNone},
	} {
		if b, odd, e := Hear(c.line, c.list, c.from, c.to); b != c.b || odd != c.odd || e != c.e {
			t.Errorf("%s: Hear is %d, %v, %v", c.name, b, odd, e)
		}
	}
}

// P5.2, by going from tick to tick.
func TestHearByTicks(t *testing.T) {
	r := rand.New(rand.NewSource(52))
	count := map[api.Errno]int{}
	for range 5000 {
		begin := r.Intn(600)
		from, to := r.Intn(begin+1), max(0, begin-50+r.Intn(250))
		list := script(r, r.Intn(begin+1), api.MaxRate)
		line := send.Spans(list, begin, uart.Put(byte(r.Intn(256)), r.Intn(2) == 0))
		if r.Intn(2) == 0 {
			line = append(line, noise(r, begin)...)
		}
		now := from
		for now < to && (!isLow(line, now) || isLow(line, now-1)) {
			now++
		}
		wantB, wantOdd, wantE := byte(0), false, api.ErrNone
		if now < to {
			wantB, wantOdd, wantE = uart.Take(heard(line, list, now))
		}
		count[wantE]++
		if b, odd, e := Hear(line, list, from, to); b != wantB || odd != wantOdd || e != wantE {
			t.Fatalf("%v by %v from %d to %d: %d, %v, %v, not %d, %v, %v", line, list, from, to, b, odd, e, wantB, wantOdd, wantE)
		}
	}
	if count[api.OK] < 100 || count[api.ErrForm] < 100 || count[api.ErrNone] < 100 {
		t.Error(count)
	}
}

// surely: a frame that one sends is heard as it is by another one.
func surely(t *testing.T, sends, hears []api.Step, at int, f api.Frame) {
	t.Helper()
	line := send.Spans(sends, at, f)
	begin := line[0].From
	if got := Bits(line, hears, begin); got != f {
		t.Fatalf("%v, sent by %v at %d: heard by %v as %v", f, sends, at, hears, got)
	}
	wantB, wantOdd, wantE := uart.Take(f)
	if b, odd, e := Hear(line, hears, max(0, begin-30), begin+1); b != wantB || odd != wantOdd || e != wantE {
		t.Fatalf("%v, sent by %v at %d: heard by %v as %d, %v, %v", f, sends, at, hears, b, odd, e)
	}
}

// P5.3: all frames whose bit 0 is low, at the ends of the rates.
func TestFrameIsHeard(t *testing.T) {
	for _, a := range []int{-mostOff, 0, mostOff} {
		for _, b := range []int{-mostOff, 0, mostOff} {
			for bits := range 1 << (api.Bits - 1) {
				at := []int{0, 1000 + bits, farAt - bits}[bits%3]
				surely(t, []api.Step{{Rate: a}}, []api.Step{{At: bits % 7, Rate: b}}, at, uart.Turn(api.Frame{}, bits<<1))
			}
		}
	}
}

// P5.3: rates that change, as often as may be.
func TestFrameIsHeardByAnybody(t *testing.T) {
	r := rand.New(rand.NewSource(53))
	for range 4000 {
		at := r.Intn(600)
		f := uart.Turn(api.Frame{}, r.Intn(1<<(api.Bits-1))<<1)
		surely(t, script(r, r.Intn(at+1), mostOff), script(r, r.Intn(at+1), mostOff), at, f)
	}
}

// Nothing is promised of steps that may not be, nor of numbers beyond the bounds, but that the calls end.
func TestAnything(t *testing.T) {
	ends := []int{math.MinInt, -1, 0, 1, farTick, api.MaxTick, math.MaxInt}
	for _, a := range ends {
		for _, b := range ends {
			line := []api.Span{{From: a, To: b}, {From: b, To: a}, {From: 3, To: 9}}
			list := []api.Step{{At: 9, Rate: a}, {At: b, Rate: a}, {At: 3, Rate: b}}
			for _, n := range ends {
				Bits(line, list, n)
				Bits(nil, nil, n)
				Hear(line, list, n, a)
				Hear(line, nil, a, n)
				Hear(nil, list, b, n)
			}
		}
	}
}

// R4: what is handed in stays, its spare room included.
func TestArgumentsStay(t *testing.T) {
	line := spans(60, 70, 20, 30, 0, 9, 5, 7)
	list := []api.Step{{At: 1, Rate: 2}, {At: 3, Rate: 4}, {At: 5, Rate: 6}}
	wasLine, wasList := slices.Clone(line), slices.Clone(list)
	Bits(line[:3], list[:2], 0)
	Hear(line[:3], list[:2], 0, 100)
	if !slices.Equal(line, wasLine) || !slices.Equal(list, wasList) {
		t.Error(line, list)
	}
}
