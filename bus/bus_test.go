package bus

import (
	"encoding/binary"
	"math"
	"math/rand"
	"slices"
	"testing"

	"hayward/api"
	"hayward/file"
	"hayward/ifs"
	"hayward/part"
	"hayward/wire"
)

// ends: numbers that are no node's, and no calm rate.
var ends = []int{math.MinInt, math.MinInt + 1, -1 << 32, -1<<32 + 1, -1 << 16, -20001, -20000, -2002, -2001, 2001, 2002, 20000, 20001, 1 << 16, 1 << 32, 1<<32 + 1, math.MaxInt - 1, math.MaxInt}

// store: file 1, of those records, and all permissions.
func store(t *testing.T, recs ...api.Rec) *ifs.Store {
	t.Helper()
	f, e := file.New(7, len(recs))
	if e != api.OK {
		t.Fatal(e)
	}
	copy(f.Recs[1:], recs)
	s := ifs.New()
	if e := s.Add(1, f); e != api.OK {
		t.Fatal(e)
	}
	return s
}

// sends, recv and exec are entries of file 1.
func sends(slot, rec, b int) api.Entry {
	return api.Entry{Kind: api.Send, Slot: slot, File: 1, Rec: rec, Byte: b}
}

func recv(slot, rec, b int) api.Entry {
	return api.Entry{Kind: api.Recv, Slot: slot, File: 1, Rec: rec, Byte: b}
}

func exec(slot, rec int) api.Entry {
	return api.Entry{Kind: api.Exec, Slot: slot, File: 1, Rec: rec}
}

// spans: each two numbers are a span.
func spans(n ...int) []api.Span {
	var out []api.Span
	for i := 0; i+1 < len(n); i += 2 {
		out = append(out, api.Span{From: n[i], To: n[i+1]})
	}
	return out
}

// rate: an oscillator that goes at one rate.
func rate(n int) []api.Step { return []api.Step{{Rate: n}} }

// lively: so many nodes, all live.
func lively(n int) []bool { return slices.Repeat([]bool{true}, n) }

// same: have two stores the same files, and refused as often?
func same(a, b *ifs.Store) bool {
	return a != nil && b != nil && a.Denied() == b.Denied() && slices.EqualFunc(a.Files(), b.Files(), func(x, y api.Named) bool {
		return x.N == y.N && file.Same(x.File, y.File)
	})
}

// copies: of all stores.
func copies(list []*ifs.Store) []*ifs.Store {
	var out []*ifs.Store
	for _, s := range list {
		out = append(out, s.Copy())
	}
	return out
}

// counted: tick by tick, the first one at which an oscillator has counted each number so far.
func counted(list []api.Step) []int {
	var out []int
	sum, rate := 0, 0
	for t := 0; len(out) <= 224*18; t++ {
		for len(out) <= sum/1000000 {
			out = append(out, t)
		}
		for _, s := range list {
			if s.At == t {
				rate = s.Rate
			}
		}
		sum += 1000000 + rate
	}
	return out
}

// frameSpans: when the line is low for a byte in even parity, of which a mask's bits 1 to 10 are turned, in a slot of an oscillator.
func frameSpans(list []api.Step, slot int, b byte, mask int) []api.Span {
	levels := [11]bool{10: true}
	for i := range 8 {
		levels[1+i] = b&(1<<i) != 0
		levels[9] = levels[9] != levels[1+i]
	}
	for i := 1; i <= 10; i++ {
		levels[i] = levels[i] != (mask>>i&1 == 1)
	}
	at := counted(list)
	var out []api.Span
	for i, high := range levels {
		switch {
		case high:
		case i > 0 && !levels[i-1]:
			out[len(out)-1].To = at[224*slot+16*i+16]
		default:
			out = append(out, api.Span{From: at[224*slot+16*i], To: at[224*slot+16*i+16]})
		}
	}
	return out
}

// P15.1: the document's example, and frames written out.
func TestWritten(t *testing.T) {
	stores := []*ifs.Store{store(t, api.Rec{255, 85}), store(t, api.Rec{0, 1})}
	tables := [][]api.Entry{{sends(1, 1, 0), sends(16, 1, 1)}, {recv(1, 1, 0), sends(2, 1, 0), sends(3, 1, 1)}}
	zero := spans(224, 240, 368, 384, 3584, 3600, 3616, 3632, 3648, 3664, 3680, 3696, 3712, 3744)
	one := spans(448, 608, 672, 688, 704, 816)
	fast := spans(448, 607, 671, 687, 703, 815)
	all := slices.Concat(zero[:2], one, zero[2:])
	for _, c := range []struct {
		name  string
		steps [][]api.Step
		one   []api.Span
	}{
		{"steps that are nil", [][]api.Step{nil, nil}, one},
		{"no steps", [][]api.Step{{}, {}}, one},
		{"rate 0", [][]api.Step{rate(0), rate(0)}, one},
		{"steps behind the round", [][]api.Step{{{At: 3744, Rate: 2000}}, {{At: 816, Rate: -2000}, {At: api.MaxTick, Rate: 2000}}}, one},
		{"a fast one", [][]api.Step{nil, rate(2000)}, slices.Clone(fast)},
	} {
		if l := Sends(stores, tables, lively(2), nil, c.steps, 0); !slices.Equal(l, zero) {
			t.Errorf("%s: node 0 sends %v", c.name, l)
		}
		if l := Sends(stores, tables, lively(2), nil, c.steps, 1); !slices.Equal(l, c.one) {
			t.Errorf("%s: node 1 sends %v", c.name, l)
		}
		copy(all[2:], c.one)
		if l := Line(stores, tables, lively(2), nil, c.steps); !slices.Equal(l, all) {
			t.Errorf("%s: the line is low at %v", c.name, l)
		}
	}
}

// P15.1: each slot, by oscillators of many rates, and by those that change their rate amid the frame.
func TestSends(t *testing.T) {
	v := api.Rec{0, 255, 85, 150}
	stores := []*ifs.Store{store(t), store(t, v), store(t, api.Rec{})}
	lists := [][]api.Step{nil, rate(1), rate(-1), rate(777), rate(-777), rate(2000), rate(-2000)}
	for slot := 1; slot <= 16; slot++ {
		lists := append(lists[:len(lists):len(lists)], []api.Step{{At: 3, Rate: 2000}, {At: 224*slot + 40, Rate: -2000}, {At: 224*slot + 41, Rate: 5}})
		for b := range 4 {
			tables := [][]api.Entry{{recv(slot, 1, 0)}, {sends(slot, 1, b)}, {recv(slot, 1, 0)}}
			for i, list := range lists {
				steps := [][]api.Step{rate(1999), list, rate(-1999)}
				want := frameSpans(list, slot, v[b], 0)
				if l := Sends(stores, tables, lively(3), nil, steps, 1); !slices.Equal(l, want) {
					t.Fatalf("byte %d in slot %d by %d is %v, not %v", b, slot, i, l, want)
				}
				if l := Line(stores, tables, lively(3), nil, steps); !slices.Equal(l, want) {
					t.Fatalf("byte %d in slot %d by %d: the line is low at %v, not %v", b, slot, i, l, want)
				}
			}
		}
	}
}

// P15.1: who doesn't send, and numbers that are no node's.
func TestSendsNothing(t *testing.T) {
	stores := []*ifs.Store{store(t, api.Rec{1}), store(t, api.Rec{2}), store(t, api.Rec{3})}
	tables := [][]api.Entry{{sends(1, 1, 0), sends(2, 9, 0)}, {recv(1, 1, 0), exec(3, 1)}, {sends(5, 1, 0)}}
	steps, live := [][]api.Step{nil, nil, nil}, []bool{true, true, false}
	for _, node := range append([]int{-2, -1, 1, 2, 3, 4, 32, 256, 257}, ends...) {
		if l := Sends(stores, tables, live, nil, steps, node); len(l) != 0 {
			t.Errorf("node %d sends %v", node, l)
		}
	}
	want := frameSpans(nil, 1, 1, 0)
	if l := Sends(stores, tables, live, nil, steps, 0); !slices.Equal(l, want) {
		t.Errorf("node 0 sends %v, not %v", l, want)
	}
	if l := Line(stores, tables, live, nil, steps); !slices.Equal(l, want) {
		t.Errorf("the line is low at %v, not %v", l, want)
	}
	if l := Line(stores, tables, make([]bool, 3), nil, steps); len(l) != 0 {
		t.Errorf("nobody is live, and the line is low at %v", l)
	}
}

// P15.1: what is spoilt goes over the line as it is then: all bits but the first one, of that slot alone.
func TestSendsSpoilt(t *testing.T) {
	stores, tables := []*ifs.Store{store(t, api.Rec{150, 85})}, [][]api.Entry{{sends(4, 1, 0), sends(5, 1, 1)}}
	steps := [][]api.Step{rate(-1234)}
	behind := frameSpans(steps[0], 5, 85, 0)
	for _, mask := range []int{0, 1, 2, 4, 6, 512, 1 << 10, 1 << 11, 1<<11 - 1, -1, -2, math.MinInt, math.MaxInt} {
		for _, spoils := range [][]api.Spoil{{{Slot: 4, Mask: mask}}, {{Slot: 3, Mask: 2}, {Slot: 4, Mask: mask}, {Slot: 6, Mask: 2}}, {{Slot: 4, Mask: 8}, {Slot: 4, Mask: mask}, {Slot: 4, Mask: 8}}} {
			want := append(frameSpans(steps[0], 4, 150, mask), behind...)
			if l := Sends(stores, tables, lively(1), spoils, steps, 0); !slices.Equal(l, want) {
				t.Errorf("by %v it is %v, not %v", spoils, l, want)
			}
			if l := Line(stores, tables, lively(1), spoils, steps); !slices.Equal(l, want) {
				t.Errorf("by %v the line is low at %v, not %v", spoils, l, want)
			}
		}
	}
}

// P15.2: two nodes swap a byte each, by oscillators at both ends.
func TestSwap(t *testing.T) {
	for slot := 1; slot < 16; slot++ {
		tables := [][]api.Entry{{sends(slot, 1, 0), recv(slot+1, 1, 0)}, {recv(slot, 1, 0), sends(slot+1, 1, 0)}}
		for _, a := range []int{-2000, -1, 0, 2000} {
			for _, b := range []int{-2000, 0, 1, 2000} {
				stores := []*ifs.Store{store(t, api.Rec{11, 7}), store(t, api.Rec{22, 8})}
				was := copies(stores)
				list, e := Round(stores, tables, lively(2), nil, [][]api.Step{rate(a), rate(b)})
				if e != api.OK || len(list) != 2 {
					t.Fatal(a, b, len(list), e)
				}
				if !same(list[0], store(t, api.Rec{22, 7})) || !same(list[1], store(t, api.Rec{11, 8})) {
					t.Errorf("at %d and %d: %v, %v", a, b, list[0].Files(), list[1].Files())
				}
				if !same(stores[0], was[0]) || !same(stores[1], was[1]) {
					t.Error("what was handed in is changed")
				}
			}
		}
	}
}

// P15.2: what a node has received in slot 1 it sends in the next round alone; what it executes likewise.
func TestBefore(t *testing.T) {
	stores := []*ifs.Store{store(t, api.Rec{0, 0, 0, 5}), store(t, api.Rec{0, 0, 0, 1}), store(t, api.Rec{})}
	tables := [][]api.Entry{{sends(1, 1, 3), exec(3, 1)}, {recv(1, 1, 3), sends(2, 1, 3)}, {recv(2, 1, 3)}}
	steps := [][]api.Step{rate(2000), rate(-2000), nil}
	for _, want := range [][]byte{{6, 5, 1}, {7, 6, 5}, {8, 7, 6}} {
		list, e := Round(stores, tables, lively(3), nil, steps)
		if e != api.OK || len(list) != 3 {
			t.Fatal(len(list), e)
		}
		for i, b := range want {
			if !same(list[i], store(t, api.Rec{0, 0, 0, b})) {
				t.Errorf("node %d has %v, not %d", i, list[i].Files(), b)
			}
		}
		stores = list
	}
}

// P15.2: who is not live neither sends, nor hears, nor executes: a copy.
func TestLive(t *testing.T) {
	tables := [][]api.Entry{{sends(1, 1, 0), exec(4, 2)}, {recv(1, 1, 1), sends(2, 1, 0)}, {recv(1, 1, 0), recv(2, 1, 1), recv(2+1, 2, 0)}, {sends(3, 1, 0)}}
	for bits := range 16 {
		var stores []*ifs.Store
		var live []bool
		for i := range 4 {
			stores, live = append(stores, store(t, api.Rec{byte(1 + i)}, api.Rec{})), append(live, bits>>i&1 == 1)
		}
		want := [][]api.Rec{{{1}, {}}, {{2}, {}}, {{3}, {}}, {{4}, {}}}
		if live[0] {
			want[0][1][3] = 1
		}
		if live[0] && live[1] {
			want[1][0][1] = 1
		}
		if live[0] && live[1] && live[2] {
			want[2][0] = api.Rec{1, 2}
		}
		if live[2] && live[3] {
			want[2][1][0] = 4
		}
		list, e := Round(stores, tables, live, nil, [][]api.Step{rate(-2000), rate(9), rate(2000), nil})
		if e != api.OK || len(list) != 4 {
			t.Fatal(len(list), e)
		}
		for i, s := range list {
			if s == stores[i] || !same(s, store(t, want[i]...)) {
				t.Errorf("live %v: node %d has %v, not %v", live, i, s.Files(), want[i])
			}
		}
	}
}

// P15.2: each bit of each frame, turned alone, and two at once: what is heard is OK and even, or nothing.
func TestRoundSpoilt(t *testing.T) {
	tables := [][]api.Entry{nil, nil}
	for slot := 1; slot <= 16; slot++ {
		tables[0] = append(tables[0], sends(slot, 1+(slot-1)/4, (slot-1)%4))
		tables[1] = append(tables[1], recv(slot, 1+(slot-1)/4, (slot-1)%4))
	}
	sent := []api.Rec{{0, 255, 1, 128}, {85, 170, 15, 240}, {2, 4, 8, 16}, {99, 100, 101, 102}}
	for slot := 1; slot <= 16; slot++ {
		for bit := 1; bit <= 10; bit++ {
			for other := bit; other <= 10; other++ {
				mask := 1<<bit | 1<<other
				want := slices.Clone(sent)
				if bit != other && other < 10 {
					want[(slot-1)/4][(slot-1)%4] ^= byte(mask >> 1)
				} else {
					want[(slot-1)/4] = api.Rec{}
				}
				stores := []*ifs.Store{store(t, sent...), store(t, make([]api.Rec, 4)...)}
				list, e := Round(stores, tables, lively(2), []api.Spoil{{Slot: slot, Mask: mask}}, [][]api.Step{rate(2000), rate(-2000)})
				if e != api.OK || len(list) != 2 || !same(list[0], stores[0]) || !same(list[1], store(t, want...)) {
					t.Fatalf("slot %d by %b: %d, %v, not %v", slot, mask, len(list), e, want)
				}
			}
		}
	}
}

// steps64: as many steps as may be; the last one goes at a rate.
func steps64(last int) []api.Step {
	var out []api.Step
	for i := range 64 {
		out = append(out, api.Step{At: i * 40, Rate: i * 31 % 2000})
	}
	out[63].Rate = last
	return out
}

// P15.2: oscillators that are calm, and those that are not.
func TestCalm(t *testing.T) {
	wild := map[string][]api.Step{
		"steps at once":          {{At: 2}, {At: 2}},
		"a step back":            {{At: 2}, {At: 1}},
		"ahead of all":           {{At: -1}},
		"behind all":             {{At: api.MaxTick + 1}},
		"far ahead":              {{At: math.MinInt}},
		"far behind":             {{At: 1}, {At: math.MaxInt}},
		"a step too many":        append(steps64(0), api.Step{At: 64 * 40}),
		"the last one is fast":   steps64(2001),
		"the last one is slow":   steps64(-2001),
		"the first one is fast":  {{Rate: 2001}, {At: 1}},
		"the first one is slow":  {{Rate: -2001}, {At: 1}},
		"one amid others":        {{Rate: 2000}, {At: 1, Rate: -2001}, {At: 2}},
		"long behind the round":  {{At: api.MaxTick, Rate: 2001}},
		"fast as none may be":    {{Rate: 20001}},
		"calm, at no such ticks": {{At: 5, Rate: 2000}, {At: 4, Rate: -2000}},
	}
	for _, n := range ends {
		errs(t, "a rate", rate(n), api.ErrArg)
		errs(t, "a rate behind another one", []api.Step{{Rate: 1}, {At: 7, Rate: n}}, api.ErrArg)
	}
	for name, list := range wild {
		errs(t, name, list, api.ErrArg)
	}
	for name, list := range map[string][]api.Step{
		"nil":                  nil,
		"none":                 {},
		"as many as may be":    steps64(-2000),
		"fast":                 rate(2000),
		"slow":                 rate(-2000),
		"both":                 {{Rate: 2000}, {At: 1, Rate: -2000}},
		"on the last tick":     {{At: api.MaxTick, Rate: -2000}},
		"nearly fast":          rate(1999),
		"a step in the middle": {{At: 1 << 31, Rate: 2000}},
	} {
		errs(t, name, list, api.OK)
	}
}

// errs: that is what Round says of an oscillator, whichever node's it is, and whether that is live.
func errs(t *testing.T, name string, list []api.Step, e api.Errno) {
	t.Helper()
	tables := [][]api.Entry{{sends(1, 1, 0)}, {recv(1, 1, 1)}, nil}
	for i := range 3 {
		for bits := range 8 {
			stores := []*ifs.Store{store(t, api.Rec{1}), store(t, api.Rec{2}), store(t, api.Rec{3})}
			steps := [][]api.Step{rate(-2000), nil, rate(2000)}
			steps[i] = list
			live := []bool{bits&1 != 0, bits&2 != 0, bits&4 != 0}
			got, f := Round(stores, tables, live, nil, steps)
			if f != e || (len(got) == 3) != (e == api.OK) || (len(got) == 0) != (e != api.OK) {
				t.Errorf("%s, of node %d, live %v: %d stores, %v, not %v", name, i, live, len(got), f, e)
			}
		}
	}
}

// P15.2: nodes that may not be are told ahead of oscillators that are not calm; and there are as many of these.
func TestErrors(t *testing.T) {
	s := store(t, api.Rec{1})
	many := func(n int) []*ifs.Store { return slices.Repeat([]*ifs.Store{s}, n) }
	empty := func(n int) [][]api.Entry { return make([][]api.Entry, n) }
	form, clash, gap := []api.Entry{sends(2, 1, 0), sends(1, 1, 0)}, []api.Entry{sends(1, 1, 0)}, []api.Entry{recv(9, 1, 0)}
	for _, c := range []struct {
		name   string
		stores []*ifs.Store
		tables [][]api.Entry
		live   []bool
		e      api.Errno
	}{
		{"nothing", nil, nil, nil, api.ErrArg},
		{"too many nodes", many(33), empty(33), lively(33), api.ErrArg},
		{"a store that is nil", []*ifs.Store{s, nil}, empty(2), []bool{true, false}, api.ErrArg},
		{"a table less", many(2), empty(1), lively(2), api.ErrArg},
		{"a table more", many(2), empty(3), lively(2), api.ErrArg},
		{"a live less", many(2), empty(2), lively(1), api.ErrArg},
		{"a live more", many(2), empty(2), lively(3), api.ErrArg},
		{"no table, behind a clash", many(3), [][]api.Entry{clash, clash, form}, lively(3), api.ErrForm},
		{"two that send at once", many(2), [][]api.Entry{clash, clash}, lively(2), api.ErrClash},
		{"two that send at once, not live", many(2), [][]api.Entry{clash, clash}, make([]bool, 2), api.ErrClash},
		{"nobody sends", many(2), [][]api.Entry{clash, gap}, lively(2), api.ErrGap},
		{"nodes that may be", many(2), [][]api.Entry{clash, nil}, lively(2), api.OK},
		{"nodes that may be, not live", many(2), empty(2), make([]bool, 2), api.OK},
		{"as many as may be", many(32), append(empty(31), clash), lively(32), api.OK},
	} {
		n := len(c.stores)
		for _, steps := range [][][]api.Step{make([][]api.Step, n), nil, make([][]api.Step, n+1), slices.Repeat([][]api.Step{rate(2001)}, n), make([][]api.Step, max(n-1, 0)), make([][]api.Step, 300)} {
			want := c.e
			if want == api.OK && (len(steps) != n || len(steps[0]) != 0) {
				want = api.ErrArg
			}
			list, e := Round(c.stores, c.tables, c.live, []api.Spoil{{Slot: 1, Mask: 2}}, steps)
			if e != want || e != api.OK && list != nil || e == api.OK && len(list) != n {
				t.Errorf("%s, and %d oscillators: Round is %d stores, %v, not %v", c.name, len(steps), len(list), e, want)
			}
			for _, x := range list {
				if x == s || !same(x, s) {
					t.Errorf("%s: %v", c.name, x.Files())
				}
			}
		}
	}
}

// nodes: some, with tables that fit, and with stores.
func nodes(t *testing.T, random *rand.Rand) ([]*ifs.Store, [][]api.Entry, []bool) {
	n := 1 + random.Intn(6)
	tables := make([][]api.Entry, n)
	for slot := 1; slot <= 16; slot++ {
		sender := random.Intn(n+n/2+1) - n/2 - 1
		for i := range tables {
			// Of some there is no such record: of file 1 there are four.
			x := api.Entry{Slot: slot, File: 1, Rec: 1 + random.Intn(5)}
			switch {
			case i == sender:
				x.Kind, x.Byte = api.Send, random.Intn(4)
			case sender >= 0 && random.Intn(2) == 0:
				x.Kind, x.Byte = api.Recv, random.Intn(4)
			case random.Intn(6) == 0:
				x.Kind = api.Exec
			default:
				continue
			}
			tables[i] = append(tables[i], x)
		}
	}
	var stores []*ifs.Store
	var live []bool
	for range n {
		var recs [4]api.Rec
		for r := range recs {
			binary.BigEndian.PutUint32(recs[r][:], random.Uint32())
		}
		stores, live = append(stores, store(t, recs[:]...)), append(live, random.Intn(6) > 0)
	}
	return stores, tables, live
}

// oscillators: so many calm ones, often at the ends of what is calm, some of which change their rate over and over.
func oscillators(random *rand.Rand, n int) [][]api.Step {
	var out [][]api.Step
	for range n {
		var list []api.Step
		for at := random.Intn(2); len(list) < 64 && random.Intn(8) > 0; at += 1 + random.Intn(600) {
			list = append(list, api.Step{At: at, Rate: []int{-2000, 2000, random.Intn(4001) - 2000}[random.Intn(3)]})
		}
		out = append(out, list)
	}
	return out
}

// P15.1, P15.2, P15.3: many rounds: what each node sends, that no two pull the line down at once, and what all come to.
func TestMany(t *testing.T) {
	random := rand.New(rand.NewSource(15))
	for range 1500 {
		stores, tables, live := nodes(t, random)
		steps := oscillators(random, len(stores))
		var spoils []api.Spoil
		masks := map[int]int{}
		for range random.Intn(5) {
			x := api.Spoil{Slot: random.Intn(18), Mask: 1<<random.Intn(12) | 1<<random.Intn(12)}
			spoils = append(spoils, x)
			masks[x.Slot] ^= x.Mask
		}
		var lists [][]api.Span
		for i, table := range tables {
			var want []api.Span
			for _, x := range table {
				if v, ok := stores[i].Get(x.File, x.Rec); x.Kind == api.Send && live[i] && ok {
					want = append(want, frameSpans(steps[i], x.Slot, v[x.Byte], masks[x.Slot])...)
				}
			}
			if l := Sends(stores, tables, live, spoils, steps, i); !slices.Equal(l, want) {
				t.Fatalf("node %d of %v by %v sends %v, not %v", i, tables, steps[i], l, want)
			}
			for _, l := range lists {
				if wire.Meet(l, want) {
					t.Fatalf("node %d of %v by %v meets another one", i, tables, steps)
				}
			}
			lists = append(lists, want)
		}
		if l := Line(stores, tables, live, spoils, steps); !slices.Equal(l, wire.Join(lists...)) {
			t.Fatalf("the line of %v by %v is low at %v", tables, steps, l)
		}
		comesTo(t, stores, tables, live, spoils, steps)
	}
}

// comesTo: a round over the line comes to what it does all at once, and changes nothing that is handed in.
func comesTo(t *testing.T, stores []*ifs.Store, tables [][]api.Entry, live []bool, spoils []api.Spoil, steps [][]api.Step) {
	t.Helper()
	was := copies(stores)
	want, e := part.Round(stores, tables, live, spoils)
	if e != api.OK {
		t.Fatal(tables, e)
	}
	got, e := Round(stores, tables, live, spoils, steps)
	if e != api.OK || !slices.EqualFunc(got, want, same) {
		t.Fatalf("a round of %v by %v, %v, live %v is another one, %v", tables, steps, spoils, live, e)
	}
	if !slices.EqualFunc(stores, was, same) {
		t.Fatal("what was handed in is changed")
	}
}

// P15.3: all bytes, in all slots, from a node at one end of what is calm to one at the other.
func TestBytes(t *testing.T) {
	tables := [][]api.Entry{nil, nil}
	for slot := 1; slot <= 16; slot++ {
		tables[0] = append(tables[0], sends(slot, 1+(slot-1)/4, (slot-1)%4))
		tables[1] = append(tables[1], recv(slot, 1+(slot-1)/4, (slot-1)%4))
	}
	ends := [][]api.Step{rate(-2000), rate(2000), {{Rate: 2000}, {At: 1792, Rate: -2000}}, nil}
	for b := range 256 {
		sent := make([]api.Rec, 4)
		for i := range 16 {
			sent[i/4][i%4] = byte(b + 16*i)
		}
		for _, x := range ends {
			for _, y := range ends {
				stores := []*ifs.Store{store(t, sent...), store(t, make([]api.Rec, 4)...)}
				list, e := Round(stores, tables, lively(2), nil, [][]api.Step{x, y})
				if e != api.OK || len(list) != 2 || !same(list[1], stores[0]) {
					t.Fatalf("%v by %v, heard by %v: %v", sent, x, y, e)
				}
			}
		}
	}
}

// P15.1, P15.2: what is answered is new memory, and spare room of what is handed in is left as it was.
func TestMemory(t *testing.T) {
	stores := []*ifs.Store{store(t, api.Rec{1}), store(t, api.Rec{2}), store(t, api.Rec{3})}
	tables := [][]api.Entry{{sends(1, 1, 0)}, {recv(1, 1, 1)}, {sends(2, 1, 0)}}
	live, spoils, steps := lively(3), []api.Spoil{{Slot: 1, Mask: 6}, {Slot: 2, Mask: 2}}, [][]api.Step{{{Rate: 5}, {At: 9, Rate: 6}}, {{Rate: 7}, {At: 8, Rate: -7}}, rate(3)}
	call := func() ([]api.Span, []api.Span, []*ifs.Store) {
		list, e := Round(stores[:2], tables[:2], live[:2], spoils[:1], steps[:2])
		if e != api.OK {
			t.Fatal(e)
		}
		return Sends(stores[:2], tables[:2], live[:2], spoils[:1], steps[:2], 0), Line(stores[:2], tables[:2], live[:2], spoils[:1], steps[:2]), list
	}
	want := frameSpans(steps[0], 1, 1, 6)
	for range 3 {
		sent, line, list := call()
		if !slices.Equal(sent, want) || !slices.Equal(line, want) || !same(list[0], store(t, api.Rec{1})) || !same(list[1], store(t, api.Rec{2, 1 ^ 3})) {
			t.Fatal(sent, line, list[0].Files(), list[1].Files())
		}
		other, otherLine, _ := call()
		// Whoever asked may do with it what they like.
		clear(sent[:cap(sent)])
		if !slices.Equal(line, want) || !slices.Equal(other, want) || !slices.Equal(otherLine, want) {
			t.Fatal("two answers share their memory")
		}
		clear(line[:cap(line)])
		for i, s := range list {
			s.Set(1, 1, api.Rec{99})
			list[i] = nil
		}
	}
	if !same(stores[0], store(t, api.Rec{1})) || !same(stores[1], store(t, api.Rec{2})) || !same(stores[2], store(t, api.Rec{3})) {
		t.Error("a store that was handed in is changed")
	}
	if tables[0][0] != sends(1, 1, 0) || tables[1][0] != recv(1, 1, 1) || tables[2][0] != sends(2, 1, 0) || !slices.Equal(live, lively(3)) {
		t.Error("tables are changed")
	}
	if !slices.Equal(spoils, []api.Spoil{{Slot: 1, Mask: 6}, {Slot: 2, Mask: 2}}) || !slices.Equal(steps[0], []api.Step{{Rate: 5}, {At: 9, Rate: 6}}) || !slices.Equal(steps[1], []api.Step{{Rate: 7}, {At: 8, Rate: -7}}) || !slices.Equal(steps[2], rate(3)) {
		t.Error("oscillators or spoils are changed")
	}
}

// Of nodes that may not be, and of wild oscillators, nothing is promised, but that all ends.
func TestWild(t *testing.T) {
	for _, steps := range [][][]api.Step{nil, {}, {rate(1)}} {
		stores, tables := []*ifs.Store{store(t, api.Rec{1}), store(t, api.Rec{2})}, [][]api.Entry{{sends(1, 1, 0)}, {sends(2, 1, 0)}}
		if l := Sends(stores, tables, lively(2), nil, steps, 1); l != nil {
			t.Errorf("without an oscillator: %v", l)
		}
		Line(stores, tables, lively(2), nil, steps)
	}
	random := rand.New(rand.NewSource(151))
	wild := func() int { return append([]int{0, 1, 2, 3, 16, 17, -1}, ends...)[random.Intn(7+len(ends))] }
	for range 300 {
		var stores []*ifs.Store
		var tables [][]api.Entry
		var live []bool
		var steps [][]api.Step
		var spoils []api.Spoil
		for range random.Intn(4) {
			stores = append(stores, []*ifs.Store{nil, {}, ifs.New(), store(t, api.Rec{1})}[random.Intn(4)])
		}
		for range random.Intn(4) {
			tables = append(tables, []api.Entry{{Kind: wild(), Slot: wild(), File: wild(), Rec: wild(), Byte: wild()}, sends(random.Intn(3), 1, wild()), recv(1, 1, 0)})
			spoils = append(spoils, api.Spoil{Slot: wild(), Mask: wild()})
		}
		for range random.Intn(4) {
			live = append(live, random.Intn(2) == 0)
			steps = append(steps, []api.Step{{At: wild(), Rate: wild()}, {At: wild(), Rate: wild()}})
		}
		Sends(stores, tables, live, spoils, steps, random.Intn(5)-1)
		Sends(stores, tables, live, spoils, steps, wild())
		Line(stores, tables, live, spoils, steps)
		if list, e := Round(stores, tables, live, spoils, steps); e != api.OK && list != nil {
			t.Error("stores beside an error")
		}
	}
}
