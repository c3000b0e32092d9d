package part

import (
	"encoding/binary"
	"maps"
	"math"
	"math/rand"
	"slices"
	"testing"

	"hayward/api"
	"hayward/file"
	"hayward/ifs"
)

// ends: numbers that are no slot's; some of them would be one, if they were cut to a byte or to 32 bits.
var ends = []int{math.MinInt, math.MinInt + 1, -1 << 32, -1<<32 + 1, -256, -255, -16, -1, 0, 17, 64, 256, 257, 1 << 16, 1<<16 + 1, 1 << 32, 1<<32 + 1, math.MaxInt - 1, math.MaxInt}

// store: file 1, of those records, and all permissions.
func store(t *testing.T, recs ...api.Rec) *ifs.Store {
	t.Helper()
	s := ifs.New()
	add(t, s, 1, 7, recs...)
	return s
}

// add: a file more, of those records.
func add(t *testing.T, s *ifs.Store, n, perm int, recs ...api.Rec) {
	t.Helper()
	f, e := file.New(perm, len(recs))
	if e != api.OK {
		t.Fatal(n, perm, e)
	}
	copy(f.Recs[1:], recs)
	if e := s.Add(n, f); e != api.OK {
		t.Fatal(n, perm, e)
	}
}

// send, recv and exec are entries of file 1.
func send(slot, rec, b int) api.Entry {
	return api.Entry{Kind: api.Send, Slot: slot, File: 1, Rec: rec, Byte: b}
}

func recv(slot, rec, b int) api.Entry {
	return api.Entry{Kind: api.Recv, Slot: slot, File: 1, Rec: rec, Byte: b}
}

func exec(slot, rec int) api.Entry {
	return api.Entry{Kind: api.Exec, Slot: slot, File: 1, Rec: rec}
}

// has: file 1 has those records, all of them.
func has(t *testing.T, name string, s *ifs.Store, recs ...api.Rec) {
	t.Helper()
	for i, want := range recs {
		if v, ok := s.Get(1, 1+i); v != want || !ok {
			t.Errorf("%s: record %d is %v, %v, not %v", name, 1+i, v, ok, want)
		}
	}
	if v, ok := s.Get(1, 1+len(recs)); ok {
		t.Errorf("%s: record %d is %v", name, 1+len(recs), v)
	}
}

// same: have two stores the same files, and refused as often?
func same(a, b *ifs.Store) bool {
	return a != nil && b != nil && a.Denied() == b.Denied() && slices.EqualFunc(a.Files(), b.Files(), func(x, y api.Named) bool {
		return x.N == y.N && file.Same(x.File, y.File)
	})
}

// copies: of all stores.
func copies(list []*ifs.Store) []*ifs.Store {
	var out []*ifs.Store
	for _, s := range list {
		out = append(out, s.Copy())
	}
	return out
}

// lively: so many nodes, all live.
func lively(n int) []bool { return slices.Repeat([]bool{true}, n) }

// frameOf: of a byte, in even parity, of which a mask's bits 1 to 10 are turned.
func frameOf(b byte, mask int) api.Frame {
	var f api.Frame
	odd := false
	for i := range 8 {
		f[1+i] = b&(1<<i) != 0
		odd = odd != f[1+i]
	}
	f[9], f[10] = odd, true
	for i := 1; i <= 10; i++ {
		f[i] = f[i] != (mask>>i&1 == 1)
	}
	return f
}

// none: nothing goes over the line in a slot, and nothing is heard.
func none(t *testing.T, name string, stores []*ifs.Store, tables [][]api.Entry, live []bool, slot int) {
	t.Helper()
	for _, spoils := range [][]api.Spoil{nil, {{Slot: slot, Mask: 2}}, {{Slot: slot, Mask: -1}}} {
		if n, f, ok := Frame(stores, tables, live, spoils, slot); n != -1 || f != (api.Frame{}) || ok {
			t.Errorf("%s: Frame in slot %d is %d, %v, %v", name, slot, n, f, ok)
		}
		if b, ok := Heard(stores, tables, live, spoils, slot); b != 0 || ok {
			t.Errorf("%s: Heard in slot %d is %d, %v", name, slot, b, ok)
		}
	}
}

// P14.1: each byte of a record, of each node, in each slot.
func TestFrame(t *testing.T) {
	v, w := api.Rec{1, 0, 255, 150}, api.Rec{85, 128, 7, 254}
	stores := []*ifs.Store{store(t, v), store(t, api.Rec{}, w)}
	for slot := 1; slot <= 16; slot++ {
		for b := range 4 {
			tables := [][]api.Entry{{send(slot, 1, b)}, {recv(slot, 1, 0)}}
			sends(t, stores, tables, slot, 0, v[b])
			tables = [][]api.Entry{{recv(slot, 1, 0)}, {send(slot, 2, b)}}
			sends(t, stores, tables, slot, 1, w[b])
			for other := 1; other <= 16; other++ {
				if other != slot {
					none(t, "another slot", stores, tables, lively(2), other)
				}
			}
		}
	}
}

// sends: in a slot a node sends a byte, if it is live.
func sends(t *testing.T, stores []*ifs.Store, tables [][]api.Entry, slot, node int, b byte) {
	t.Helper()
	// Whether others are live does not count.
	for _, live := range [][]bool{{true, true}, {node == 0, node == 1}} {
		if n, f, ok := Frame(stores, tables, live, nil, slot); n != node || f != frameOf(b, 0) || !ok {
			t.Errorf("Frame in slot %d is %d, %v, %v, not %d's of %d", slot, n, f, ok, node, b)
		}
		if c, ok := Heard(stores, tables, live, nil, slot); c != b || !ok {
			t.Errorf("Heard in slot %d is %d, %v, not %d", slot, c, ok, b)
		}
	}
	none(t, "not live", stores, tables, []bool{node == 1, node == 0}, slot)
	none(t, "nobody live", stores, tables, []bool{false, false}, slot)
}

// P14.1: who sends what is not there; what does not send; and slots in which nobody does.
func TestNoFrame(t *testing.T) {
	full := ifs.New()
	add(t, full, 1, 7, make([]api.Rec, 255)...)
	for name, c := range map[string]struct {
		s *ifs.Store
		x api.Entry
	}{
		"a record that is not there":     {store(t, api.Rec{1}), send(3, 2, 0)},
		"a record far from there":        {store(t, api.Rec{1}), send(3, 255, 3)},
		"a file without records":         {store(t), send(3, 1, 0)},
		"a file that is not there":       {store(t, api.Rec{1}), api.Entry{Kind: api.Send, Slot: 3, File: 2, Rec: 1}},
		"a store without files":          {ifs.New(), send(3, 1, 0)},
		"a store that nobody made":       {&ifs.Store{}, send(3, 1, 0)},
		"one that executes":              {full, exec(3, 1)},
		"one that has nothing but files": {full, send(4, 1, 0)},
	} {
		none(t, name, []*ifs.Store{c.s}, [][]api.Entry{{c.x}}, lively(1), 3)
	}
	none(t, "one that receives", []*ifs.Store{full, full}, [][]api.Entry{{recv(3, 1, 0)}, {send(3, 1, 0)}}, []bool{true, false}, 3)
	var all []api.Entry
	for slot := 1; slot <= 16; slot++ {
		all = append(all, send(slot, slot, 0))
	}
	for _, slot := range ends {
		none(t, "no slot", []*ifs.Store{full}, [][]api.Entry{all}, lively(1), slot)
	}
}

// P14.1: what may be read by nobody is sent all the same.
func TestFramePerm(t *testing.T) {
	for perm := range 8 {
		s := ifs.New()
		add(t, s, 63, perm, make([]api.Rec, 255)...)
		s.Set(63, 255, api.Rec{0, 0, 0, 77})
		x := api.Entry{Kind: api.Send, Slot: 16, File: 63, Rec: 255, Byte: 3}
		n, f, ok := Frame([]*ifs.Store{s}, [][]api.Entry{{x}}, lively(1), nil, 16)
		if n != 0 || f != frameOf(77, 0) || !ok || s.Denied() != 0 {
			t.Errorf("Frame of permissions %d is %d, %v, %v", perm, n, f, ok)
		}
	}
}

// P14.1: all masks, with bytes of both parities: what of them is turned, and what is heard then.
func TestSpoils(t *testing.T) {
	for _, b := range []byte{0, 1, 3, 85, 128, 150, 254, 255} {
		stores, tables := []*ifs.Store{store(t, api.Rec{9, b})}, [][]api.Entry{{send(5, 1, 1)}}
		for mask := range 1 << 12 {
			turns(t, stores, tables, []api.Spoil{{Slot: 5, Mask: mask}}, b, mask)
			turns(t, stores, tables, []api.Spoil{{Slot: 5, Mask: mask - 1<<12}}, b, mask)
		}
		for _, mask := range []int{math.MinInt, math.MinInt + 2, -1 << 40, -1 << 11, -2, -1, 1<<11 | 4, 1 << 32, 1<<32 + 6, 1 << 62, math.MaxInt - 1, math.MaxInt} {
			turns(t, stores, tables, []api.Spoil{{Slot: 5, Mask: mask}}, b, mask)
		}
	}
}

// turns: what goes over the line in slot 5 is a byte's frame, by that mask; and so it is heard.
func turns(t *testing.T, stores []*ifs.Store, tables [][]api.Entry, spoils []api.Spoil, b byte, mask int) {
	t.Helper()
	if n, f, ok := Frame(stores, tables, lively(1), spoils, 5); n != 0 || f != frameOf(b, mask) || !ok {
		t.Fatalf("Frame of %d by %v is %d, %v, %v", b, spoils, n, f, ok)
	}
	turned := 0
	for i := 1; i <= 9; i++ {
		turned += mask >> i & 1
	}
	want, told := b^byte(mask>>1), turned%2 == 0 && mask>>10&1 == 0
	if !told {
		want = 0
	}
	if c, ok := Heard(stores, tables, lively(1), spoils, 5); c != want || ok != told {
		t.Fatalf("Heard of %d by %v is %d, %v, not %d, %v", b, spoils, c, ok, want, told)
	}
}

// P14.1: several spoils, of this slot and of others.
func TestManySpoils(t *testing.T) {
	stores, tables := []*ifs.Store{store(t, api.Rec{44})}, [][]api.Entry{{send(5, 1, 0)}}
	for _, c := range []struct {
		spoils []api.Spoil
		mask   int
	}{
		{nil, 0},
		{[]api.Spoil{}, 0},
		{[]api.Spoil{{Slot: 4, Mask: 2}, {Slot: 6, Mask: 2}, {Slot: 0, Mask: 2}, {Slot: -5, Mask: 2}, {Slot: 5 + 1<<32, Mask: 2}, {Slot: 5 + 256, Mask: 2}}, 0},
		{[]api.Spoil{{Slot: 5, Mask: 2}, {Slot: 5, Mask: 2}}, 0},
		{[]api.Spoil{{Slot: 5, Mask: 2}, {Slot: 5, Mask: 2}, {Slot: 5, Mask: 2}}, 2},
		{[]api.Spoil{{Slot: 5, Mask: 2}, {Slot: 5, Mask: 4}}, 6},
		{[]api.Spoil{{Slot: 5, Mask: 6}, {Slot: 4, Mask: 6}, {Slot: 5, Mask: 12}}, 10},
		{[]api.Spoil{{Slot: 5, Mask: 1}, {Slot: 5, Mask: 1 << 10}, {Slot: 5, Mask: 1 << 11}}, 1 << 10},
		{[]api.Spoil{{Slot: 5, Mask: -1}, {Slot: 5, Mask: 1}}, 1<<11 - 2},
		{slices.Repeat([]api.Spoil{{Slot: 5, Mask: 512}}, 1001), 512},
	} {
		turns(t, stores, tables, c.spoils, 44, c.mask)
	}
	random := rand.New(rand.NewSource(14))
	for range 2000 {
		var spoils []api.Spoil
		mask := 0
		for range random.Intn(6) {
			x := api.Spoil{Slot: 4 + random.Intn(3), Mask: random.Intn(1 << 12)}
			spoils = append(spoils, x)
			if x.Slot == 5 {
				mask ^= x.Mask
			}
		}
		turns(t, stores, tables, spoils, 44, mask)
	}
}

// P14.2: what one node has behind what it heard.
func TestApply(t *testing.T) {
	a, b := api.Rec{1, 2, 3, 4}, api.Rec{5, 6, 7, 255}
	all := map[int]byte{}
	for slot := range 20 {
		all[slot] = byte(100 + slot)
	}
	for name, c := range map[string]struct {
		table []api.Entry
		heard map[int]byte
		a, b  api.Rec
	}{
		"nothing":                            {nil, nil, a, b},
		"no table":                           {nil, all, a, b},
		"a byte":                             {[]api.Entry{recv(3, 1, 2)}, all, api.Rec{1, 2, 103, 4}, b},
		"a byte 0":                           {[]api.Entry{recv(3, 1, 2)}, map[int]byte{3: 0}, api.Rec{1, 2, 0, 4}, b},
		"not heard":                          {[]api.Entry{recv(3, 1, 2)}, map[int]byte{2: 9, 4: 9}, a, b},
		"nothing heard":                      {[]api.Entry{recv(3, 1, 2)}, nil, a, b},
		"a record":                           {[]api.Entry{recv(1, 1, 3), recv(2, 1, 2), recv(3, 1, 1), recv(4, 1, 0)}, all, api.Rec{104, 103, 102, 101}, b},
		"a record, its first slot not heard": {[]api.Entry{recv(1, 1, 3), recv(2, 1, 2), recv(3, 1, 1)}, map[int]byte{2: 9, 3: 9}, a, b},
		"a record, its last slot not heard":  {[]api.Entry{recv(1, 1, 3), recv(2, 1, 2), recv(3, 1, 1)}, map[int]byte{1: 9, 2: 9}, a, b},
		"two records":                        {[]api.Entry{recv(1, 2, 0), recv(2, 1, 0), recv(3, 2, 1)}, all, api.Rec{102, 2, 3, 4}, api.Rec{101, 103, 7, 255}},
		"two records, one not heard":         {[]api.Entry{recv(1, 2, 0), recv(2, 1, 0), recv(3, 2, 1)}, map[int]byte{2: 9, 3: 9}, api.Rec{9, 2, 3, 4}, b},
		"one byte twice":                     {[]api.Entry{recv(1, 1, 0), recv(9, 1, 0)}, all, api.Rec{109, 2, 3, 4}, b},
		"one byte thrice, another once":      {[]api.Entry{recv(1, 1, 0), recv(2, 1, 0), recv(3, 1, 1), recv(16, 1, 0)}, all, api.Rec{116, 103, 3, 4}, b},
		"one byte twice, only the last":      {[]api.Entry{recv(1, 1, 0), recv(9, 1, 0)}, map[int]byte{9: 9}, a, b},
		"one byte twice, only the first":     {[]api.Entry{recv(1, 1, 0), recv(9, 1, 0)}, map[int]byte{1: 9}, a, b},
		"a record that is not there":         {[]api.Entry{recv(1, 3, 0), recv(2, 1, 0)}, all, api.Rec{102, 2, 3, 4}, b},
		"what is sent":                       {[]api.Entry{send(1, 1, 0), send(2, 2, 0)}, all, a, b},
		"what is sent is not received":       {[]api.Entry{send(1, 1, 0), recv(2, 1, 1)}, map[int]byte{2: 9}, api.Rec{1, 9, 3, 4}, b},
		"executed":                           {[]api.Entry{exec(1, 1)}, nil, api.Rec{1, 2, 3, 5}, b},
		"executed, carried over":             {[]api.Entry{exec(1, 2)}, all, a, api.Rec{5, 6, 8, 0}},
		"executed twice":                     {[]api.Entry{exec(1, 1), exec(2, 2), exec(3, 1)}, all, api.Rec{1, 2, 3, 6}, api.Rec{5, 6, 8, 0}},
		"executed ahead, by its slot":        {[]api.Entry{exec(1, 1), recv(2, 1, 3)}, all, api.Rec{1, 2, 3, 103}, b},
		"executed behind":                    {[]api.Entry{recv(1, 1, 3), exec(2, 1)}, all, api.Rec{1, 2, 3, 102}, b},
		"executed, not heard":                {[]api.Entry{recv(1, 1, 3), exec(2, 1)}, nil, api.Rec{1, 2, 3, 5}, b},
		"executed, a record not there":       {[]api.Entry{exec(1, 3), exec(2, 1)}, nil, api.Rec{1, 2, 3, 5}, b},
	} {
		s := store(t, a, b)
		was, heard := s.Copy(), maps.Clone(c.heard)
		has(t, name, Apply(s, c.table, c.heard), c.a, c.b)
		if !same(s, was) || !maps.Equal(heard, c.heard) {
			t.Errorf("%s: what was handed in is changed", name)
		}
	}
}

// P14.2: files of all permissions: they count for what is executed alone, and what is refused is counted.
func TestApplyPerm(t *testing.T) {
	v := api.Rec{255, 255, 255, 255}
	for perm := range 8 {
		s := ifs.New()
		add(t, s, 0, perm, v)
		add(t, s, 63, perm, v)
		s.Do(api.Addr{Op: api.OpWrite, File: 0}, v)
		was := s.Copy()
		got := Apply(s, []api.Entry{
			{Kind: api.Recv, Slot: 1, File: 63, Rec: 1, Byte: 1},
			{Kind: api.Exec, Slot: 2, File: 0, Rec: 1},
			{Kind: api.Exec, Slot: 3, File: 63, Rec: 1},
			{Kind: api.Exec, Slot: 4, File: 63, Rec: 2},
			{Kind: api.Exec, Slot: 5, File: 62, Rec: 1},
		}, map[int]byte{1: 7})
		one, other, denied := v, api.Rec{255, 7, 255, 255}, 3
		if perm >= api.MayExec {
			one, other, denied = api.Rec{}, api.Rec{255, 8, 0, 0}, 1
		}
		if w, _ := got.Get(0, 1); w != one {
			t.Errorf("permissions %d: %v is executed", perm, w)
		}
		if w, _ := got.Get(63, 1); w != other {
			t.Errorf("permissions %d: %v is received, and executed", perm, w)
		}
		if got.Denied() != denied || len(got.Files()) != 2 || !same(s, was) {
			t.Errorf("permissions %d: %d were refused", perm, got.Denied())
		}
	}
}

// P14.2: records of one number in two files are two.
func TestApplyFiles(t *testing.T) {
	s := store(t, api.Rec{1, 1, 1, 1})
	add(t, s, 2, 0, api.Rec{2, 2, 2, 2})
	table := []api.Entry{recv(1, 1, 0), {Kind: api.Recv, Slot: 2, File: 2, Rec: 1, Byte: 1}, {Kind: api.Recv, Slot: 3, File: 3, Rec: 1, Byte: 1}}
	got := Apply(s, table, map[int]byte{2: 9, 3: 9})
	has(t, "not heard", got, api.Rec{1, 1, 1, 1})
	if v, _ := got.Get(2, 1); v != (api.Rec{2, 9, 2, 2}) || len(got.Files()) != 2 {
		t.Errorf("file 2 has %v", v)
	}
}

// P14.3: the document's example.
func TestSwap(t *testing.T) {
	stores := []*ifs.Store{store(t, api.Rec{11}), store(t, api.Rec{22})}
	tables := [][]api.Entry{{send(1, 1, 0), recv(2, 1, 0)}, {recv(1, 1, 0), send(2, 1, 0)}}
	list, e := Round(stores, tables, lively(2), nil)
	if e != api.OK || len(list) != 2 {
		t.Fatal(len(list), e)
	}
	has(t, "node 0", list[0], api.Rec{22})
	has(t, "node 1", list[1], api.Rec{11})
	has(t, "node 0, as it was", stores[0], api.Rec{11})
	has(t, "node 1, as it was", stores[1], api.Rec{22})
}

// P14.3: all that is sent is as it was: a byte that goes round goes on by one node a round.
func TestRing(t *testing.T) {
	var stores []*ifs.Store
	var tables [][]api.Entry
	for i := range 16 {
		stores = append(stores, store(t, api.Rec{byte(i)}))
		own, last := send(i+1, 1, 0), recv((i+15)%16+1, 1, 0)
		table := []api.Entry{last, own}
		if own.Slot < last.Slot {
			table = []api.Entry{own, last}
		}
		tables = append(tables, table)
	}
	for round := range 33 {
		for i, s := range stores {
			has(t, "the ring", s, api.Rec{byte(i+16*3-round) % 16})
		}
		next, e := Round(stores, tables, lively(16), nil)
		if e != api.OK || len(next) != 16 {
			t.Fatal(len(next), e)
		}
		stores = next
	}
}

// P14.3: what nodes execute in a round they send behind it alone; and who is not live does nothing.
func TestLive(t *testing.T) {
	tables := [][]api.Entry{{exec(1, 1), send(2, 1, 3)}, {recv(2, 1, 3), exec(3, 2)}, {recv(2, 1, 0)}}
	for bits := range 8 {
		stores := []*ifs.Store{store(t, api.Rec{0, 0, 0, 5}), store(t, api.Rec{}, api.Rec{}), store(t, api.Rec{})}
		live := []bool{bits&1 != 0, bits&2 != 0, bits&4 != 0}
		want := [][]api.Rec{{{0, 0, 0, 5}}, {{}, {}}, {{}}}
		if live[0] {
			want[0][0][3] = 6
		}
		if live[0] && live[1] {
			want[1][0][3] = 5
		}
		if live[1] {
			want[1][1][3] = 1
		}
		if live[0] && live[2] {
			want[2][0][0] = 5
		}
		list, e := Round(stores, tables, live, nil)
		if e != api.OK || len(list) != 3 {
			t.Fatal(len(list), e)
		}
		for i, s := range list {
			has(t, "a node", s, want[i]...)
			if !live[i] && (s == stores[i] || !same(s, stores[i])) {
				t.Error("one that is not live is no copy")
			}
		}
	}
}

// P14.3: nodes that may not be, and which error is told.
func TestRoundErrors(t *testing.T) {
	s := store(t, api.Rec{1})
	many := func(n int) []*ifs.Store { return slices.Repeat([]*ifs.Store{s}, n) }
	empty := func(n int) [][]api.Entry { return make([][]api.Entry, n) }
	form, clash, gap := []api.Entry{send(2, 1, 0), send(1, 1, 0)}, []api.Entry{send(1, 1, 0)}, []api.Entry{recv(9, 1, 0)}
	for _, c := range []struct {
		name   string
		stores []*ifs.Store
		tables [][]api.Entry
		live   []bool
		e      api.Errno
	}{
		{"nothing", nil, nil, nil, api.ErrArg},
		{"no node", []*ifs.Store{}, [][]api.Entry{}, []bool{}, api.ErrArg},
		{"no stores", nil, empty(1), lively(1), api.ErrArg},
		{"too many nodes", many(33), empty(33), lively(33), api.ErrArg},
		{"far too many nodes", many(257), empty(257), lively(257), api.ErrArg},
		{"a store that is nil", []*ifs.Store{nil}, empty(1), lively(1), api.ErrArg},
		{"the last store is nil", append(many(31), nil), empty(32), lively(32), api.ErrArg},
		{"one that is nil, and not live", []*ifs.Store{s, nil}, empty(2), []bool{true, false}, api.ErrArg},
		{"no tables", many(1), nil, lively(1), api.ErrArg},
		{"a table less", many(2), empty(1), lively(2), api.ErrArg},
		{"a table more", many(2), empty(3), lively(2), api.ErrArg},
		{"no live", many(1), empty(1), nil, api.ErrArg},
		{"a live less", many(2), empty(2), lively(1), api.ErrArg},
		{"a live more", many(2), empty(2), lively(3), api.ErrArg},
		{"a store less", many(1), empty(2), lively(2), api.ErrArg},
		{"a store that is nil, no table", []*ifs.Store{nil}, [][]api.Entry{form}, lively(1), api.ErrArg},
		{"too many nodes, two that send at once", many(33), append(empty(31), clash, clash), lively(33), api.ErrArg},
		{"a table less, of nobody's", many(2), [][]api.Entry{gap}, lively(2), api.ErrArg},
		{"no table", many(1), [][]api.Entry{form}, lively(1), api.ErrForm},
		{"no table of one that is not live", many(2), [][]api.Entry{nil, form}, []bool{true, false}, api.ErrForm},
		{"an end", many(1), [][]api.Entry{{{Kind: api.End}}}, lively(1), api.ErrForm},
		{"no table, behind a clash", many(3), [][]api.Entry{clash, clash, form}, lively(3), api.ErrForm},
		{"two that send at once", many(2), [][]api.Entry{clash, clash}, lively(2), api.ErrClash},
		{"two that send at once, not live", many(2), [][]api.Entry{clash, clash}, []bool{false, false}, api.ErrClash},
		{"two that send at once, behind a gap", many(3), [][]api.Entry{gap, clash, clash}, lively(3), api.ErrClash},
		{"nobody sends", many(2), [][]api.Entry{clash, gap}, lively(2), api.ErrGap},
		{"nobody sends to one that is not live", many(2), [][]api.Entry{clash, gap}, []bool{true, false}, api.ErrGap},
		{"one node without a table", many(1), empty(1), lively(1), api.OK},
		{"as many as may be", many(32), append(empty(31), clash), make([]bool, 32), api.OK},
		{"a sender that is not live is no gap", many(2), [][]api.Entry{clash, {recv(1, 1, 0)}}, []bool{false, true}, api.OK},
		{"what is sent need not be there", many(2), [][]api.Entry{{send(1, 9, 0)}, {recv(1, 9, 0)}}, lively(2), api.OK},
	} {
		list, e := Round(c.stores, c.tables, c.live, []api.Spoil{{Slot: 1, Mask: 2}})
		n := len(c.stores)
		if c.e != api.OK {
			n = 0
		}
		if e != c.e || len(list) != n {
			t.Errorf("%s: Round is %d stores, %v, not %v", c.name, len(list), e, c.e)
		}
		for _, x := range list {
			has(t, c.name, x, api.Rec{1})
		}
	}
	has(t, "what was handed in", s, api.Rec{1})
}

// node: what the document says that a node has.
type node struct {
	recs [4]api.Rec // of file 1, from 1 on
	exec bool       // may they be executed?
	live bool
}

// nodes: some, with tables that fit, and with stores.
func nodes(t *testing.T, random *rand.Rand) ([]node, [][]api.Entry, []*ifs.Store, []bool) {
	list := make([]node, 1+random.Intn(6))
	tables := make([][]api.Entry, len(list))
	for slot := 1; slot <= 16; slot++ {
		sender := random.Intn(2*len(list)) - len(list)
		for i := range list {
			// Of some there is no such record: of file 1 there are four.
			x := api.Entry{Slot: slot, File: 1, Rec: 1 + random.Intn(5)}
			switch {
			case i == sender:
				x.Kind, x.Byte = api.Send, random.Intn(4)
			case sender >= 0 && random.Intn(2) == 0:
				x.Kind, x.Byte = api.Recv, random.Intn(4)
			case random.Intn(6) == 0:
				x.Kind = api.Exec
			default:
				continue
			}
			tables[i] = append(tables[i], x)
		}
	}
	var stores []*ifs.Store
	var live []bool
	for i := range list {
		n := &list[i]
		for r := range n.recs {
			binary.BigEndian.PutUint32(n.recs[r][:], random.Uint32())
		}
		n.exec, n.live = random.Intn(2) == 0, random.Intn(5) > 0
		s, perm := ifs.New(), 0
		if n.exec {
			perm = api.MayExec
		}
		add(t, s, 1, perm, n.recs[:]...)
		stores, live = append(stores, s), append(live, n.live)
	}
	return list, tables, stores, live
}

// heardIn: by slots, what the document says that everybody hears.
func heardIn(list []node, tables [][]api.Entry, spoils []api.Spoil) map[int]byte {
	heard := map[int]byte{}
	for i, n := range list {
		for _, x := range tables[i] {
			if x.Kind != api.Send || !n.live || x.Rec > 4 {
				continue
			}
			mask := 0
			for _, y := range spoils {
				if y.Slot == x.Slot {
					mask ^= y.Mask
				}
			}
			turned := 0
			for bit := 1; bit <= 9; bit++ {
				turned += mask >> bit & 1
			}
			if turned%2 == 0 && mask>>10&1 == 0 {
				heard[x.Slot] = n.recs[x.Rec-1][x.Byte] ^ byte(mask>>1)
			}
		}
	}
	return heard
}

// behind: what the document says that a node has behind a round, and how often it refused.
func (n node) behind(table []api.Entry, heard map[int]byte) (node, int) {
	if !n.live {
		return n, 0
	}
	var torn [4]bool
	denied := 0
	for r := range n.recs {
		for _, x := range table {
			_, ok := heard[x.Slot]
			torn[r] = torn[r] || x.Kind == api.Recv && x.Rec == 1+r && !ok
		}
	}
	for _, x := range table {
		if x.Kind == api.Recv && x.Rec <= 4 && !torn[x.Rec-1] {
			n.recs[x.Rec-1][x.Byte] = heard[x.Slot]
		}
	}
	for _, x := range table {
		switch {
		case x.Kind != api.Exec || x.Rec > 4:
		case !n.exec:
			denied++
		default:
			v := n.recs[x.Rec-1][:]
			binary.BigEndian.PutUint32(v, binary.BigEndian.Uint32(v)+1)
		}
	}
	return n, denied
}

// P14.1, P14.2, P14.3: many rounds of many nodes, against what the document says of them.
func TestMany(t *testing.T) {
	random := rand.New(rand.NewSource(143))
	for range 3000 {
		list, tables, stores, live := nodes(t, random)
		var spoils []api.Spoil
		for range random.Intn(5) {
			spoils = append(spoils, api.Spoil{Slot: random.Intn(18), Mask: 1<<random.Intn(12) | 1<<random.Intn(12)})
		}
		heard := heardIn(list, tables, spoils)
		for slot := -1; slot <= 18; slot++ {
			want, told := heard[slot]
			if b, ok := Heard(stores, tables, live, spoils, slot); b != want || ok != told {
				t.Fatalf("Heard in slot %d of %v, %v is %d, %v, not %d, %v", slot, tables, spoils, b, ok, want, told)
			}
		}
		was := copies(stores)
		got, e := Round(stores, tables, live, spoils)
		if e != api.OK || len(got) != len(list) {
			t.Fatal(tables, len(got), e)
		}
		for i, n := range list {
			then, denied := n.behind(tables[i], heard)
			has(t, "many", got[i], then.recs[:]...)
			if got[i].Denied() != denied || len(got[i].Files()) != 1 || !same(stores[i], was[i]) {
				t.Fatalf("node %d of %v refused %d, not %d", i, tables, got[i].Denied(), denied)
			}
		}
		if t.Failed() {
			t.Fatal(tables, live, spoils)
		}
	}
}

// P14.3: a round less one spoiled slot: no record is received in part.
func TestAtomic(t *testing.T) {
	tables := [][]api.Entry{nil, nil}
	for slot := 1; slot <= 16; slot++ {
		tables[0] = append(tables[0], send(slot, 1+(slot-1)%4, (slot-1)/4))
		tables[1] = append(tables[1], recv(slot, 1+(slot-1)%4, (slot-1)/4))
	}
	sent := []api.Rec{{1, 2, 3, 4}, {5, 6, 7, 8}, {9, 10, 11, 12}, {13, 14, 15, 16}}
	for slot := 1; slot <= 16; slot++ {
		for bit := 1; bit <= 10; bit++ {
			stores := []*ifs.Store{store(t, sent...), store(t, make([]api.Rec, 4)...)}
			list, e := Round(stores, tables, lively(2), []api.Spoil{{Slot: slot, Mask: 1 << bit}})
			if e != api.OK {
				t.Fatal(e)
			}
			want := slices.Clone(sent)
			want[(slot-1)%4] = api.Rec{}
			has(t, "one bit", list[1], want...)
		}
	}
}

// P14.1, P14.2, P14.3: what is handed in is neither changed nor kept, and what is answered is nobody else's.
func TestMemory(t *testing.T) {
	room := append([]*ifs.Store{store(t, api.Rec{1}), store(t, api.Rec{2})}, nil, nil)
	tableRoom := append([]api.Entry{send(1, 1, 0), recv(2, 1, 1)}, send(3, 3, 3), send(3, 3, 3))
	tables := append([][]api.Entry{tableRoom[:2], {recv(1, 1, 1), send(2, 1, 0), exec(3, 1)}}, tableRoom, tableRoom)
	live := append(lively(2), false, true)
	spoils := append([]api.Spoil{{Slot: 3, Mask: 2}}, api.Spoil{Slot: 1, Mask: 2}, api.Spoil{Slot: 2, Mask: 2})
	stores, table, on, some := slices.Clone(room), slices.Clone(tableRoom), slices.Clone(live), slices.Clone(spoils)
	was := copies(room[:2])
	ask := func() []*ifs.Store {
		list, e := Round(room[:2], tables[:2], live[:2], spoils[:1])
		if e != api.OK || len(list) != 2 {
			t.Fatal(len(list), e)
		}
		return list
	}
	one, other := ask(), ask()
	if !slices.Equal(room, stores) || !slices.Equal(tableRoom, table) || !slices.Equal(live, on) || !slices.Equal(spoils, some) || len(tables[1]) != 3 {
		t.Error("what was handed in is changed")
	}
	if !same(room[0], was[0]) || !same(room[1], was[1]) {
		t.Error("a store that was handed in is changed")
	}
	for i := range 2 {
		if one[i] == other[i] || one[i] == room[i] {
			t.Error("what is answered is somebody else's")
		}
		one[i].Set(1, 1, api.Rec{99})
		room[i].Set(1, 1, api.Rec{98})
	}
	clear(one[:cap(one)])
	has(t, "node 0", other[0], api.Rec{1, 2, 0, 0})
	has(t, "node 1", other[1], api.Rec{2, 1, 0, 1})
}

// P14.3: several nodes with one store have one each behind a round.
func TestOneStore(t *testing.T) {
	s := store(t, api.Rec{1, 2})
	list, e := Round([]*ifs.Store{s, s, s}, [][]api.Entry{{send(1, 1, 0), exec(2, 1)}, {recv(1, 1, 1)}, nil}, []bool{true, true, false}, nil)
	if e != api.OK || len(list) != 3 {
		t.Fatal(len(list), e)
	}
	has(t, "node 0", list[0], api.Rec{1, 2, 0, 1})
	has(t, "node 1", list[1], api.Rec{1, 1})
	has(t, "node 2", list[2], api.Rec{1, 2})
	has(t, "what was handed in", s, api.Rec{1, 2})
}

// No call panics, though the document promises nothing of nodes that may not be.
func TestWild(t *testing.T) {
	s := store(t, api.Rec{1, 2, 3, 4})
	for _, n := range ends {
		for kind := range 6 {
			x := []api.Entry{{Kind: kind, Slot: 1, File: n, Rec: n, Byte: n}, {Kind: kind, Slot: 1, File: 1, Rec: 1, Byte: n}, {Kind: kind, Slot: n, File: 1, Rec: 1, Byte: 4}}
			tables := [][]api.Entry{x, x}
			for _, stores := range [][]*ifs.Store{nil, {s}, {nil, nil}, {s, s, s}} {
				for on := range 4 {
					for _, slot := range []int{1, n} {
						Frame(stores, tables, lively(on), []api.Spoil{{Slot: n, Mask: n}}, slot)
						Heard(stores, tables, lively(on), nil, slot)
					}
					Round(stores, tables, lively(on), nil)
				}
			}
			Apply(s, x, map[int]byte{1: 9, n: 9})
			if got := Apply(nil, x, map[int]byte{1: 9, n: 9}); got != nil {
				t.Error("Apply of nothing is something")
			}
		}
	}
	has(t, "what was handed in", s, api.Rec{1, 2, 3, 4})
}
