package member

import (
	"maps"
	"math"
	"math/rand"
	"slices"
	"testing"

	"hayward/api"
	"hayward/file"
	"hayward/ifs"
	"hayward/part"
)

// ends: slots, nodes and other numbers, ordinary ones and ones far off; some would be another one, if they were cut.
var ends = []int{
	math.MinInt, math.MinInt + 1, -1 << 32, -1<<32 + 1, -256, -33, -32, -2, -1, 0, 1, 2, 7, 8, 15, 16, 17, 31, 32, 33, 63, 64, 255, 256, 257,
	1 << 32, 1<<32 + 1, math.MaxInt - 1, math.MaxInt,
}

// made: a Member of so many nodes.
func made(t *testing.T, nodes int) *Member {
	t.Helper()
	m, e := New(nodes)
	if m == nil || e != api.OK {
		t.Fatalf("New(%d) is %v, %v", nodes, m, e)
	}
	return m
}

// entry: one of that kind and slot, of a record that may be.
func entry(kind, slot int) api.Entry {
	return api.Entry{Kind: kind, Slot: slot, File: 3, Rec: 1}
}

// send, recv: a node sends in the slot, or receives.
func send(slot int) api.Entry { return entry(api.Send, slot) }
func recv(slot int) api.Entry { return entry(api.Recv, slot) }

// in: a byte was heard in each of the slots.
func in(slots ...int) map[int]byte {
	out := map[int]byte{}
	for _, slot := range slots {
		out[slot] = byte(3 * slot)
	}
	return out
}

// own: tables of so many nodes, of which each one sends in one slot: its number, and 1.
func own(nodes int) [][]api.Entry {
	var out [][]api.Entry
	for n := range nodes {
		out = append(out, []api.Entry{send(n + 1)})
	}
	return out
}

// all: the slots that own says of so many nodes.
func all(nodes int) map[int]byte {
	out := map[int]byte{}
	for n := range nodes {
		out[n+1] = 0
	}
	return out
}

// number: the record's number by the document's words.
func number(v api.Rec) int {
	return int(v[0])*(1<<24) + int(v[1])*(1<<16) + int(v[2])*(1<<8) + int(v[3])
}

// same: just the nodes of which there says so are there, and the record says so as well.
func same(t *testing.T, m *Member, there ...bool) {
	t.Helper()
	want, bit := 0, 1
	for n, is := range there {
		if m.There(n) != is {
			t.Fatalf("There(%d) is %v", n, !is)
		}
		if is {
			want += bit
		}
		bit *= 2
	}
	if got := number(m.Record()); got != want {
		t.Fatalf("Record is %b, not %b", got, want)
	}
	for _, n := range append([]int{len(there), len(there) + 1}, ends...) {
		if (n < 0 || n >= len(there)) && m.There(n) {
			t.Fatalf("of %d nodes There(%d) is true", len(there), n)
		}
	}
}

// words is nodes by the document's words: of each one what came of all rounds in which it had something to send.
type words [][]bool

func (w words) note(tables [][]api.Entry, heard map[int]byte) {
	for n := range w {
		var slots []int
		if n < len(tables) {
			for _, x := range tables[n] {
				if x.Kind == 1 {
					slots = append(slots, x.Slot)
				}
			}
		}
		if len(slots) > 0 {
			was := false
			for slot := range heard {
				was = was || slices.Contains(slots, slot)
			}
			w[n] = append(w[n], was)
		}
	}
}

// there: of each node: was it not missed three times at the end of these rounds?
func (w words) there() []bool {
	var out []bool
	for _, list := range w {
		k := len(list)
		out = append(out, k < 3 || list[k-1] || list[k-2] || list[k-3])
	}
	return out
}

// Promise: all calls of a nil one do nothing, or answer false, or a record of bytes 0.
func TestNil(t *testing.T) {
	var m *Member
	for range 2 * api.Retries {
		same(t, m)
		m.Note(own(32), all(32))
		same(t, m)
		m.Note(own(32), nil)
		m.Note(nil, nil)
		same(t, m)
		if m.Record() != (api.Rec{}) {
			t.Error(m.Record())
		}
	}
}

// One that New has not made has no nodes.
func TestZero(t *testing.T) {
	var m Member
	for range 2 * api.Retries {
		m.Note(own(32), all(32))
		same(t, &m)
		m.Note(own(1), nil)
		same(t, &m)
	}
}

// P24.1: from 1 to 32 nodes, and no other number of them.
func TestNew(t *testing.T) {
	for _, nodes := range append([]int{-3, -2, 34, 35, 65, 254, 65536}, ends...) {
		if nodes >= 1 && nodes <= 32 {
			continue
		}
		if m, e := New(nodes); m != nil || e != api.ErrArg {
			t.Errorf("New(%d) is %v, %v", nodes, m, e)
		}
	}
	for nodes := 1; nodes <= 32; nodes++ {
		m := made(t, nodes)
		same(t, m, slices.Repeat([]bool{true}, nodes)...)
		if got := number(m.Record()); got != 1<<nodes-1 {
			t.Errorf("Record of New(%d) is %b", nodes, got)
		}
	}
}

// P24.1: none was missed: it takes three rounds till a node is not there.
func TestFirst(t *testing.T) {
	for nodes := 1; nodes <= 32; nodes++ {
		m := made(t, nodes)
		for i := range 5 {
			same(t, m, slices.Repeat([]bool{i < 3}, nodes)...)
			m.Note(own(nodes), nil)
		}
	}
}

// R5: two that New made have nothing in common.
func TestApart(t *testing.T) {
	one, two := made(t, 2), made(t, 2)
	for range 3 {
		one.Note(own(2), in(1))
		two.Note(own(2), in(2))
	}
	same(t, one, true, false)
	same(t, two, false, true)
	same(t, made(t, 2), true, true)
}

// P24.1: the record, byte by byte, where one node alone is not there, or one alone is.
func TestRecord(t *testing.T) {
	if v := made(t, 2).Record(); v != (api.Rec{0, 0, 0, 3}) {
		t.Error(v)
	}
	if v := made(t, 9).Record(); v != (api.Rec{0, 0, 1, 255}) {
		t.Error(v)
	}
	if v := made(t, 32).Record(); v != (api.Rec{255, 255, 255, 255}) {
		t.Error(v)
	}
	for n := range 32 {
		var lone api.Rec
		lone[3-n/8] = []byte{1, 2, 4, 8, 16, 32, 64, 128}[n%8]
		less := api.Rec{255 - lone[0], 255 - lone[1], 255 - lone[2], 255 - lone[3]}
		most := all(32)
		delete(most, n+1)
		one, others := made(t, 32), made(t, 32)
		for range 3 {
			one.Note(own(32), in(n+1))
			others.Note(own(32), most)
		}
		if one.Record() != lone || others.Record() != less {
			t.Errorf("node %d alone: %v, and the others: %v", n, one.Record(), others.Record())
		}
	}
}

// P24.1: any of 32 nodes are there, by There and by the record; who asks changes nothing.
func TestAnySet(t *testing.T) {
	r := rand.New(rand.NewSource(1))
	for range 2000 {
		nodes := 1 + r.Intn(32)
		m, heard, there := made(t, nodes), map[int]byte{}, make([]bool, nodes)
		for n := range nodes {
			if there[n] = r.Intn(2) == 0; there[n] {
				heard[n+1] = byte(r.Intn(2))
			}
		}
		for range 3 {
			m.Note(own(nodes), heard)
		}
		same(t, m, there...)
		same(t, m, there...)
		v := m.Record()
		v[3] ^= 255 // what was answered is whoever asked's own
		same(t, m, there...)
	}
}

// P24.2: a node is not there behind the third time, however often it is missed from then on; and is again, when it was heard once.
func TestMissed(t *testing.T) {
	for _, times := range []int{3, 4, 5, 6, 7, 127, 128, 129, 254, 255, 256, 257, 258, 65535, 65536, 65537, 100000} {
		m := made(t, 2)
		for i := range times {
			same(t, m, i < 3, true)
			m.Note(own(2), in(2))
		}
		same(t, m, false, true)
		for range 3 { // what was missed counts no more
			m.Note(own(2), in(1, 2))
			same(t, m, true, true)
			m.Note(own(2), in(2))
			same(t, m, true, true)
			m.Note(own(2), in(2))
			same(t, m, true, true)
		}
		m.Note(own(2), in(2))
		same(t, m, false, true)
		m.Note(own(2), in(1, 2))
		same(t, m, true, true)
	}
}

// P24.2: heard between, it was not missed, so that three times more have to be.
func TestBetween(t *testing.T) {
	for missed := range 3 {
		for heard := 1; heard < 5; heard++ {
			m := made(t, 1)
			for range 50 {
				for range missed {
					m.Note(own(1), nil)
					same(t, m, true)
				}
				for range heard {
					m.Note(own(1), in(1))
					same(t, m, true)
				}
			}
			for i := range 3 {
				same(t, m, true)
				m.Note(own(1), map[int]byte{})
				same(t, m, i < 2)
			}
		}
	}
}

// idle: tables by which nodes 0 and 1 have nothing to send.
func idle() [][][]api.Entry {
	return [][][]api.Entry{
		nil, {}, {nil}, {{}}, {nil, nil}, {{}, {}, {}},
		{{recv(1)}, {recv(2)}}, {{entry(api.Exec, 1)}}, {{entry(api.End, 1), {Kind: api.End}}},
		{{{}}}, {{recv(1), recv(2), entry(api.Exec, 3)}, nil}, {{entry(0, 1), entry(5, 1), entry(65, 1), entry(-1, 1), entry(257, 1)}},
		{nil, {recv(1)}, {send(1), send(2), send(3)}}, // a node that there is not
	}
}

// P24.2: of a node without something to send nothing changes: neither is it missed, nor is it heard, and what was missed stays.
func TestIdle(t *testing.T) {
	for i, tables := range idle() {
		for _, heard := range []map[int]byte{nil, {}, in(1), in(1, 2, 3), in(ends...)} {
			m := made(t, 2)
			rest := func(there ...bool) {
				t.Helper()
				for range 4 {
					m.Note(tables, heard)
					same(t, m, there...)
				}
			}
			for range 3 { // behind each round in which node 0 is missed
				rest(true, true)
				m.Note(own(2), in(2))
			}
			same(t, m, false, true)
			rest(false, true)
			m.Note(own(2), in(1))
			rest(true, true)
			m.Note(own(2), nil)
			rest(true, true)
			m.Note(own(2), nil)
			if !m.There(0) || m.There(1) {
				t.Error(i, heard)
			}
			rest(true, false)
			m.Note(own(2), in(7))
			rest(false, false)
		}
	}
}

// P24.2: one node is missed, while another one has nothing to send, or no table.
func TestSome(t *testing.T) {
	m := made(t, 4)
	for i := range 5 {
		m.Note([][]api.Entry{{recv(2)}, {send(2)}, nil}, nil)
		same(t, m, true, i < 2, true, true)
	}
	for i := range 5 {
		m.Note([][]api.Entry{{send(1)}}, in(2))
		same(t, m, i < 2, false, true, true)
	}
	m.Note([][]api.Entry{nil, {send(5), recv(6)}}, in(5))
	same(t, m, false, true, true, true)
	for i := range 5 {
		m.Note([][]api.Entry{nil, nil, nil, {recv(1), send(4)}}, in(1))
		same(t, m, false, true, true, i < 2)
	}
}

// P24.2: tables beyond the nodes count for nothing, however many there are.
func TestBeyond(t *testing.T) {
	for nodes := 1; nodes <= 32; nodes++ {
		m := made(t, nodes)
		for range 4 {
			m.Note(own(100), in(nodes+1, 33, 100)) // heard are some beyond alone
		}
		same(t, m, slices.Repeat([]bool{false}, nodes)...)
		m.Note(own(100), all(nodes))
		there := slices.Repeat([]bool{true}, nodes)
		same(t, m, there...)
		for range 4 {
			m.Note(own(100), all(nodes))
		}
		same(t, m, there...)
		for i := range 4 { // only the last one is missed, beside those beyond
			m.Note(own(100), all(nodes-1))
			there[nodes-1] = i < 2
			same(t, m, there...)
		}
	}
}

// P24.2: one of a node's slots will do, whichever it is, and wherever it stands; slots in which it does else, or another node sends, won't.
func TestSlots(t *testing.T) {
	table := []api.Entry{recv(1), send(3), entry(api.Exec, 4), send(7), recv(9), send(16), entry(api.Exec, 10)}
	tables := [][]api.Entry{table, {send(1), recv(3), send(9), recv(16)}}
	for slot := range 20 {
		m := made(t, 2)
		for range 3 {
			m.Note(tables, in(slot))
		}
		same(t, m, slot == 3 || slot == 7 || slot == 16, slot == 1 || slot == 9)
		for range 3 {
			m.Note(tables, in(slot, 20))
		}
		m.Note(tables, nil)
		m.Note(tables, nil)
		same(t, m, slot == 3 || slot == 7 || slot == 16, slot == 1 || slot == 9)
	}
	m := made(t, 2) // a node is missed once a round, however many slots it has
	for i := range 4 {
		same(t, m, i < 3, i < 3)
		m.Note(tables, in(4, 10, 2))
	}
	m.Note(tables, in(3, 7, 16, 1))
	same(t, m, true, true)
}

// P24.2: it is not asked what was heard, but whether: any byte will do.
func TestBytes(t *testing.T) {
	for b := range 256 {
		m := made(t, 1)
		for range 3 {
			m.Note(own(1), nil)
		}
		same(t, m, false)
		m.Note(own(1), map[int]byte{1: byte(b)})
		same(t, m, true)
	}
}

// P24.2: it is asked for an entry's Kind and Slot alone: entries that may be no table are read as they stand.
func TestWild(t *testing.T) {
	for _, slot := range ends {
		for _, other := range ends {
			x := api.Entry{Kind: api.Send, Slot: slot, File: other, Rec: other, Byte: other}
			tables := [][]api.Entry{{x, x}, {{Kind: other, Slot: slot}}}
			m, w := made(t, 2), make(words, 2)
			for _, heard := range []map[int]byte{in(slot), in(other), in(other), in(other), in(slot), nil, nil, nil, in(ends...)} {
				m.Note(tables, heard)
				w.note(tables, heard)
				same(t, m, w.there()...)
			}
		}
	}
	tables := [][]api.Entry{{send(9), send(2), entry(api.End, 0), send(5), send(5)}} // neither rising, nor up to an End
	for _, slot := range []int{9, 2, 5} {
		m := made(t, 1)
		for range 5 {
			m.Note(tables, in(slot))
			same(t, m, true)
		}
	}
}

// P24.2: two nodes that send in one slot are both heard there.
func TestTwins(t *testing.T) {
	m := made(t, 3)
	tables := [][]api.Entry{{send(4)}, {send(4)}, {send(5)}}
	for range 3 {
		m.Note(tables, in(5))
	}
	same(t, m, false, false, true)
	m.Note(tables, in(4))
	same(t, m, true, true, true)
}

// R4: what is handed in is not changed, spare room included, and not kept.
func TestMemory(t *testing.T) {
	room := []api.Entry{send(1), recv(2), send(3), send(4)}
	more := [][]api.Entry{room[:2], {send(5)}, {send(6)}}
	heard := in(1, 9)
	wasRoom, wasHeard := slices.Clone(room), maps.Clone(heard)
	m := made(t, 3)
	for range 3 {
		m.Note(more[:2], heard)
		if !slices.Equal(room, wasRoom) || !maps.Equal(heard, wasHeard) || len(more[2]) != 1 || more[2][0] != send(6) || more[1][0] != send(5) {
			t.Fatal("Note changed what was handed in")
		}
	}
	same(t, m, true, false, true)
	room[0], more[1] = recv(1), nil
	clear(heard)
	same(t, m, true, false, true)
	for range 2 {
		m.Note(own(3), all(3))
	}
	same(t, m, true, true, true)
}

// P24.2: all scripts of nine rounds in which a node is heard, missed, or has nothing to send.
func TestScripts(t *testing.T) {
	rounds := 1
	for range 9 {
		rounds *= 3
	}
	for script := range rounds {
		m, w := made(t, 1), make(words, 1)
		rest := script
		for range 9 {
			tables, heard := own(1), in(2)
			switch rest % 3 {
			case 1:
				heard = in(1)
			case 2:
				tables[0] = []api.Entry{recv(1)}
			}
			rest /= 3
			m.Note(tables, heard)
			w.note(tables, heard)
			if m.There(0) != w.there()[0] {
				t.Fatalf("script %d: There is %v", script, m.There(0))
			}
		}
		same(t, m, w.there()...)
	}
}

// table: some entries of any kind, in slots from 0 to 17.
func table(r *rand.Rand) []api.Entry {
	var out []api.Entry
	for range r.Intn(4) {
		out = append(out, api.Entry{Kind: r.Intn(6), Slot: r.Intn(18), File: r.Intn(64), Rec: r.Intn(256), Byte: r.Intn(4)})
	}
	return out
}

// P24.1, P24.2: long scripts against the document's words; and the same calls answer the same.
func TestRandom(t *testing.T) {
	for seed := range int64(300) {
		r := rand.New(rand.NewSource(seed))
		nodes, often := 1+r.Intn(32), 1+r.Intn(8)
		m, twin, w := made(t, nodes), made(t, nodes), make(words, nodes)
		for range 200 {
			var tables [][]api.Entry
			for range r.Intn(nodes + 3) {
				tables = append(tables, table(r))
			}
			heard := map[int]byte{}
			for slot := range 18 {
				if r.Intn(often) == 0 {
					heard[slot] = byte(r.Intn(3))
				}
			}
			m.Note(tables, heard)
			twin.Note(tables, heard)
			w.note(tables, heard)
			same(t, m, w.there()...)
			if m.Record() != twin.Record() {
				t.Fatal(m.Record(), twin.Record())
			}
		}
	}
}

// field is nodes of which each sends two bytes, and receives one of the next node.
type field struct {
	stores []*ifs.Store
	tables [][]api.Entry
	live   []bool
}

func newField(t *testing.T, nodes int) field {
	t.Helper()
	var out field
	for n := range nodes {
		f, e := file.New(api.MayRead|api.MayWrite, 2)
		if e != api.OK {
			t.Fatal(e)
		}
		f.Recs[1] = api.Rec{byte(11 * n), byte(37 * n)}
		s := ifs.New()
		if e := s.Add(3, f); e != api.OK {
			t.Fatal(e)
		}
		out.stores = append(out.stores, s)
		list := []api.Entry{
			{Kind: api.Send, Slot: 2*n + 1, File: 3, Rec: 1},
			{Kind: api.Send, Slot: 2*n + 2, File: 3, Rec: 1, Byte: 1},
			{Kind: api.Recv, Slot: 2*((n+1)%nodes) + 1, File: 3, Rec: 2},
		}
		slices.SortFunc(list, func(x, y api.Entry) int { return x.Slot - y.Slot })
		out.tables, out.live = append(out.tables, list), append(out.live, true)
	}
	return out
}

// round: what is heard in one, of which some frames are turned; and then the stores are what they are.
func (f *field) round(t *testing.T, spoils []api.Spoil) map[int]byte {
	t.Helper()
	heard := map[int]byte{}
	for slot := 1; slot <= api.MaxSlot; slot++ {
		if b, ok := part.Heard(f.stores, f.tables, f.live, spoils, slot); ok {
			heard[slot] = b
		}
	}
	stores, e := part.Round(f.stores, f.tables, f.live, spoils)
	if e != api.OK {
		t.Fatal(e)
	}
	f.stores = stores
	return heard
}

// P24.3: one that is down is not there, when it was missed three times; in the first round in which it is heard it is again; the others are there all the time.
func TestDown(t *testing.T) {
	f, m := newField(t, 4), made(t, 4)
	for n := range 4 {
		for down := range 8 {
			f.live[n] = false
			for i := range down {
				m.Note(f.tables, f.round(t, nil))
				there := []bool{true, true, true, true}
				there[n] = i < 2
				same(t, m, there...)
			}
			f.live[n] = true
			m.Note(f.tables, f.round(t, nil))
			same(t, m, true, true, true, true)
		}
	}
}

// P24.3: where but one of a node's two frames is turned it is heard; where both are, it is missed.
func TestTurned(t *testing.T) {
	f, m := newField(t, 4), made(t, 4)
	for range 6 {
		m.Note(f.tables, f.round(t, []api.Spoil{{Slot: 1, Mask: 2}, {Slot: 4, Mask: 4}, {Slot: 7, Mask: 8}}))
		same(t, m, true, true, true, true)
	}
	for i := range 6 {
		m.Note(f.tables, f.round(t, []api.Spoil{{Slot: 5, Mask: 2}, {Slot: 6, Mask: 1024}}))
		same(t, m, true, true, i < 2, true)
	}
	m.Note(f.tables, f.round(t, []api.Spoil{{Slot: 6, Mask: 2}}))
	same(t, m, true, true, true, true)
}

// P24.3: nodes go down and come back, and frames are turned, as it comes: who is live, and of whose frames none is turned, is there; who was not heard in three rounds is not.
func TestField(t *testing.T) {
	for seed := range int64(50) {
		r := rand.New(rand.NewSource(seed))
		nodes := 2 + r.Intn(7)
		f, m, silent := newField(t, nodes), made(t, nodes), make([]int, nodes)
		for range 100 {
			for n := range nodes {
				f.live[n] = f.live[n] != (r.Intn(4) == 0)
			}
			var spoils []api.Spoil
			for range r.Intn(6) {
				spoils = append(spoils, api.Spoil{Slot: 1 + r.Intn(16), Mask: 2 << r.Intn(10)})
			}
			heard := f.round(t, spoils)
			m.Note(f.tables, heard)
			var there []bool
			for n := range nodes {
				_, one := heard[2*n+1]
				_, two := heard[2*n+2]
				hit := func(x api.Spoil) bool { return x.Slot == 2*n+1 || x.Slot == 2*n+2 }
				silent[n]++
				if one || two || f.live[n] && !slices.ContainsFunc(spoils, hit) {
					silent[n] = 0
				}
				there = append(there, silent[n] < 3)
			}
			same(t, m, there...)
		}
	}
}
