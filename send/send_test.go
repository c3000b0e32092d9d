package send

import (
	"math"
	"math/rand"
	"slices"
	"testing"

	"hayward/api"
	"hayward/tick"
	"hayward/uart"
)

const farAt = 1 << 30 // the last time of its own at which a node sends

// frame: eleven levels, bit 0 first; '1' is high.
func frame(levels string) api.Frame {
	var f api.Frame
	for i := range f {
		f[i] = levels[i] == '1'
	}
	return f
}

// spans: each two numbers are a span.
func spans(n ...int) []api.Span {
	var out []api.Span
	for i := 0; i+1 < len(n); i += 2 {
		out = append(out, api.Span{From: n[i], To: n[i+1]})
	}
	return out
}

var (
	fast = []api.Step{{Rate: 20000}}
	slow = []api.Step{{Rate: -20000}}
)

// P4.1: the document's example, and frames written out.
func TestSpans(t *testing.T) {
	for _, c := range []struct {
		name string
		list []api.Step
		at   int
		f    api.Frame
		want []api.Span
	}{
		{"example", nil, 100, uart.Put(255, true), spans(100, 116)},
		{"example in even parity", nil, 100, uart.Put(255, false), spans(100, 116, 244, 260)},
		{"empty steps", []api.Step{}, 100, uart.Put(255, true), spans(100, 116)},
		{"at 0", nil, 0, uart.Put(255, true), spans(0, 16)},
		{"neighbours are one", nil, 0, uart.Put(1, false), spans(0, 16, 32, 144)},
		{"in turn", nil, 10, uart.Put(0x55, true), spans(10, 26, 42, 58, 74, 90, 106, 122, 138, 154)},
		{"0", nil, 0, uart.Put(0, false), spans(0, 160)},
		{"the lowest bit first", nil, 0, uart.Put(0xfe, false), spans(0, 32)},
		{"the highest bit last", nil, 0, uart.Put(0x7f, false), spans(0, 16, 128, 144)},
		{"no low bit", nil, 5, frame("11111111111"), nil},
		{"no high bit", nil, 5, frame("00000000000"), spans(5, 181)},
		{"bit 0 high", nil, 5, frame("10111111111"), spans(21, 37)},
		{"bit 10 low", nil, 5, frame("11111111110"), spans(165, 181)},
		{"both ends low", nil, 5, frame("01111111110"), spans(5, 21, 165, 181)},
		{"fast", fast, 1020, uart.Put(0, true), spans(1000, 1142)},
		{"fast, bit by bit", fast, 0, uart.Put(0x55, true), spans(0, 16, 32, 48, 63, 79, 95, 110, 126, 142)},
		{"slow, bit by bit", slow, 0, uart.Put(0x55, true), spans(0, 17, 33, 49, 66, 82, 98, 115, 131, 147)},
		{"slow", slow, 980, uart.Put(255, true), spans(1000, 1017)},
		{"fast later", []api.Step{{At: 100, Rate: 20000}}, 92, uart.Put(0, true), spans(92, 234)},
		{"slow only once it is sent", []api.Step{{At: 116, Rate: -20000}}, 100, uart.Put(255, true), spans(100, 116)},
		{"slow within a bit", []api.Step{{At: 115, Rate: -20000}}, 100, uart.Put(255, true), spans(100, 117)},
		{"far", nil, farAt, uart.Put(255, true), spans(farAt, farAt+16)},
		{"far and fast", fast, farAt, uart.Put(255, true), spans(1052688063, 1052688079)},
		{"far and slow", slow, farAt, uart.Put(255, true), spans(1095654923, 1095654939)},
	} {
		if got := Spans(c.list, c.at, c.f); !slices.Equal(got, c.want) {
			t.Errorf("%s: Spans is %v", c.name, got)
		}
	}
}

// P4.2.
func TestWindow(t *testing.T) {
	const last = 1 << 20
	for _, c := range []struct {
		name     string
		list     []api.Step
		slot     int
		from, to int
	}{
		{"the first", nil, 0, 0, 224},
		{"empty steps", []api.Step{}, 1, 224, 448},
		{"the third", nil, 3, 672, 896},
		{"of a round the last", nil, api.MaxSlot, 3584, 3808},
		{"fast, the first", fast, 0, 0, 220},
		{"fast", fast, 1, 220, 440},
		{"slow, the first", slow, 0, 0, 229},
		{"slow", slow, 1, 229, 458},
		{"slow within it", []api.Step{{At: 300, Rate: -20000}}, 1, 224, 452},
		{"slow once it is over", []api.Step{{At: 448, Rate: -20000}}, 1, 224, 448},
		{"fast ahead of it", []api.Step{{At: 0, Rate: 20000}, {At: 100}}, 1, 222, 446},
		{"the last", nil, last, 224 * last, 224*last + 224},
		{"fast, the last", fast, last, 230275514, 230275734},
		{"slow, the last", slow, last, 239674515, 239674743},
	} {
		if from, to := Window(c.list, c.slot); from != c.from || to != c.to {
			t.Errorf("%s: Window is %d, %d", c.name, from, to)
		}
	}
}

// script: an oscillator whose steps come close together from a tick on.
func script(r *rand.Rand, at int) []api.Step {
	list := make([]api.Step, 0, 20)
	for range r.Intn(20) {
		list = append(list, api.Step{At: at, Rate: r.Intn(2*api.MaxRate+1) - api.MaxRate})
		at += 1 + r.Intn(60)
	}
	return list
}

// someFrame: any of the frames that there are.
func someFrame(r *rand.Rand) api.Frame { return uart.Turn(api.Frame{}, r.Intn(1<<api.Bits)) }

func isPlain(list []api.Span) bool {
	for i, s := range list {
		if s.From >= s.To || i > 0 && s.From <= list[i-1].To {
			return false
		}
	}
	return true
}

// P4.1: tick by tick, as the words have it: it is low just while what has been counted lies in a low bit.
func TestSpansByTicks(t *testing.T) {
	r := rand.New(rand.NewSource(4))
	for range 1500 {
		at := r.Intn(600)
		list, f := script(r, r.Intn(at+1)), someFrame(r)
		got := Spans(list, at, f)
		if !isPlain(got) {
			t.Fatalf("%v at %d: %v isn't plain", f, at, got)
		}
		for now := range at + 300 {
			counted := tick.Local(list, now) - at
			want := counted >= 0 && counted < api.Bits*api.Bit && !f[counted/api.Bit]
			low := slices.ContainsFunc(got, func(s api.Span) bool { return s.From <= now && now < s.To })
			if low != want {
				t.Fatalf("%v at %d by %v: low at %d is %v: %v", f, at, list, now, low, got)
			}
		}
	}
}

// P4.1: wherever the frame is sent, up to the last time.
func TestSpansFar(t *testing.T) {
	r := rand.New(rand.NewSource(41))
	for range 300 {
		at := r.Intn(farAt + 1)
		list, f := script(r, at), someFrame(r)
		for _, s := range Spans(list, at, f) {
			from, to := tick.Local(list, s.From)-at, tick.Local(list, s.To)-at
			// At a rate above 0 one tick may count two, so that a bit begins one late.
			if from%api.Bit > 1 || to%api.Bit > 1 || from < 0 || to > api.Bits*api.Bit+1 {
				t.Fatalf("%v at %d by %v: counted %d and %d", f, at, list, from, to)
			}
			for i := from / api.Bit; i < to/api.Bit; i++ {
				if f[i] {
					t.Fatalf("%v at %d by %v: bit %d is low", f, at, list, i)
				}
			}
		}
	}
}

// P4.2: tick by tick, as the words have it: slots follow each other, and a tick lies in that one which has been counted.
func TestWindowByTicks(t *testing.T) {
	r := rand.New(rand.NewSource(42))
	for range 100 {
		list := script(r, r.Intn(500))
		end := 0
		for slot := range 10 {
			from, to := Window(list, slot)
			if from != end {
				t.Fatalf("%v: slot %d begins at %d, not at %d", list, slot, from, end)
			}
			for now := from; now < to; now++ {
				if got := tick.Local(list, now) / api.Slot; got != slot {
					t.Fatalf("%v: at %d slot is %d, not %d", list, now, got, slot)
				}
			}
			end = to
		}
		if end < 2000 {
			t.Fatal(list, end)
		}
	}
}

// A frame that is sent at a slot's beginning ends within that slot.
func TestFrameLiesInWindow(t *testing.T) {
	r := rand.New(rand.NewSource(43))
	for range 300 {
		list, slot := script(r, r.Intn(500)), r.Intn(api.MaxSlot+1)
		from, to := Window(list, slot)
		got := Spans(list, api.Slot*slot, api.Frame{})
		if len(got) != 1 || got[0].From != from || got[0].To >= to {
			t.Fatalf("%v: %v in slot %d, which is from %d to %d", list, got, slot, from, to)
		}
	}
}

// Nothing is promised of steps that may not be, nor of numbers beyond the bounds, but that the calls end.
func TestAnything(t *testing.T) {
	ends := []int{math.MinInt, -1, 0, 1, farAt, api.MaxTick, math.MaxInt}
	for _, at := range ends {
		for _, rate := range ends {
			list := []api.Step{{At: 9, Rate: rate}, {At: at, Rate: rate}, {At: 3, Rate: rate}}
			for _, n := range ends {
				Spans(list, n, api.Frame{})
				Spans(list, n, uart.Put(0x55, true))
				Window(list, n)
				Spans(nil, n, uart.Put(0x55, true))
				Window(nil, n)
			}
		}
	}
}

// R4: what is handed in stays, its spare room included, and no two answers share anything.
func TestNothingIsShared(t *testing.T) {
	room := []api.Step{{At: 1, Rate: 2}, {At: 3, Rate: 4}, {At: 5, Rate: 6}}
	was := slices.Clone(room)
	f := uart.Put(0x55, true)
	one, other := Spans(room[:2], 10, f), Spans(room[:2], 10, f)
	Window(room[:2], 1)
	if !slices.Equal(room, was) || f != uart.Put(0x55, true) {
		t.Error(room, f)
	}
	want := slices.Clone(other)
	one = one[:cap(one)]
	for i := range one {
		one[i] = api.Span{From: 77, To: 78}
	}
	if !slices.Equal(other, want) || !slices.Equal(Spans(room[:2], 10, f), want) {
		t.Error(other)
	}
}
