package check

import (
	"math"
	"math/rand"
	"slices"
	"testing"

	"hayward/api"
)

// send, recv and exec are entries that may be, in a slot.
func send(slot int) api.Entry {
	return api.Entry{Kind: api.Send, Slot: slot, File: 9, Rec: 5, Byte: slot & 3}
}

func recv(slot int) api.Entry {
	return api.Entry{Kind: api.Recv, Slot: slot, File: 8, Rec: 7, Byte: 3}
}

func exec(slot int) api.Entry { return api.Entry{Kind: api.Exec, Slot: slot, File: 7, Rec: 255} }

// each: an entry for each slot.
func each(of func(slot int) api.Entry) []api.Entry {
	var out []api.Entry
	for slot := 1; slot <= 16; slot++ {
		out = append(out, of(slot))
	}
	return out
}

// told: Tables answers that node, and that error.
func told(t *testing.T, name string, list [][]api.Entry, node int, e api.Errno) {
	t.Helper()
	if n, f := Tables(list); n != node || f != e {
		t.Errorf("%s: Tables is %d, %v, not %d, %v", name, n, f, node, e)
	}
}

// P12.1: tables that fit.
func TestFit(t *testing.T) {
	end := api.Entry{Kind: api.End}
	for name, list := range map[string][][]api.Entry{
		"nothing":                       nil,
		"no node":                       {},
		"a node without a table":        {nil},
		"nodes without tables":          {{}, nil, {}},
		"one that sends":                {{send(1)}},
		"one that executes":             {{exec(1)}},
		"all execute in one slot":       {{exec(3)}, {exec(3)}, {exec(3)}},
		"one executes, one sends there": {{exec(3)}, {send(3)}},
		"two swap":                      {{send(1), recv(2)}, {recv(1), send(2)}},
		"a node ahead receives":         {{recv(1)}, nil, {send(1)}},
		"a node behind receives":        {{send(1)}, nil, {recv(1)}},
		"many receive":                  {{recv(16)}, {recv(16)}, {send(16)}, {recv(16)}},
		"all slots":                     {each(send), each(recv), each(recv)},
		"all slots, from the last node": {each(recv), each(exec), each(send)},
		"what stands in spare room":     {append([]api.Entry{send(1)}, send(2), end)[:1], {recv(1)}},
	} {
		told(t, name, list, -1, api.OK)
	}
}

// P12.1: the first node of which the first error holds.
func TestNoFit(t *testing.T) {
	end := api.Entry{Kind: api.End}
	low := append([]api.Entry{{Kind: api.Send, Slot: 0, Rec: 1}}, each(send)...)
	for _, c := range []struct {
		name string
		list [][]api.Entry
		node int
		e    api.Errno
	}{
		{"the document's example", [][]api.Entry{{send(1)}, {send(1)}}, 1, api.ErrClash},
		{"an end", [][]api.Entry{{end}}, 0, api.ErrForm},
		{"an end behind a table", [][]api.Entry{{send(1)}, {recv(1), end}}, 1, api.ErrForm},
		{"nothing", [][]api.Entry{nil, {{}}}, 1, api.ErrForm},
		{"a slot twice, by one node", [][]api.Entry{{send(1), send(1)}}, 0, api.ErrForm},
		{"what it sends it receives", [][]api.Entry{{send(1), recv(1)}}, 0, api.ErrForm},
		{"slots that fall", [][]api.Entry{{send(1)}, {recv(1)}, {send(3), send(2)}}, 2, api.ErrForm},
		{"a slot 0", [][]api.Entry{low}, 0, api.ErrForm},
		{"a slot 17", [][]api.Entry{{send(17)}, {recv(17)}}, 0, api.ErrForm},
		{"two that may not be", [][]api.Entry{{send(1)}, {end}, {{}}}, 1, api.ErrForm},
		{"form, behind a clash and a gap", [][]api.Entry{{recv(9)}, {send(1)}, {send(1)}, {end}}, 3, api.ErrForm},
		{"form, ahead of a clash and a gap", [][]api.Entry{{end}, {recv(9)}, {send(1)}, {send(1)}}, 0, api.ErrForm},
		{"form and clash of one node", [][]api.Entry{{send(1)}, {send(1), end}}, 1, api.ErrForm},
		{"a sender that may not be", [][]api.Entry{{recv(1)}, {send(1), end}}, 1, api.ErrForm},
		{"clash, far apart", [][]api.Entry{{send(7)}, nil, {exec(7)}, {recv(7)}, {send(6), send(7)}}, 4, api.ErrClash},
		{"the first clash, by node", [][]api.Entry{{send(1), send(2)}, {send(2)}, {send(1)}}, 1, api.ErrClash},
		{"three in one slot", [][]api.Entry{nil, {send(4)}, {send(4)}, {send(4)}}, 2, api.ErrClash},
		{"clash in the last slot", [][]api.Entry{{send(16)}, {send(16)}}, 1, api.ErrClash},
		{"clash by the last of its entries", [][]api.Entry{{send(16)}, each(send)}, 1, api.ErrClash},
		{"clash, behind a gap", [][]api.Entry{{recv(9)}, {send(1)}, {send(1)}}, 2, api.ErrClash},
		{"clash, ahead of a gap", [][]api.Entry{{send(1)}, {send(1)}, {recv(9)}}, 1, api.ErrClash},
		{"clash and gap of one node", [][]api.Entry{{send(1)}, {send(1), recv(9)}}, 1, api.ErrClash},
		{"a gap", [][]api.Entry{{send(1)}, {recv(1), recv(2)}}, 1, api.ErrGap},
		{"a gap of the first", [][]api.Entry{{recv(1)}}, 0, api.ErrGap},
		{"a gap in the last slot", [][]api.Entry{each(send)[:15], each(recv)}, 1, api.ErrGap},
		{"a gap of more nodes", [][]api.Entry{{exec(2)}, {recv(2)}, {recv(2)}}, 1, api.ErrGap},
		{"the first gap, by node", [][]api.Entry{{send(1)}, {recv(1), recv(9)}, {recv(2)}}, 1, api.ErrGap},
		{"what one executes nobody sends", [][]api.Entry{{exec(2)}, {recv(2)}}, 1, api.ErrGap},
		{"all receive", [][]api.Entry{each(recv), each(recv)}, 0, api.ErrGap},
	} {
		told(t, c.name, c.list, c.node, c.e)
	}
}

// P12.1: an entry with any wrong field is no table's, wherever it stands.
func TestWrongFields(t *testing.T) {
	ends := []int{math.MinInt, math.MinInt + 1, -1 << 32, -1<<32 + 1, -256, -16, -2, -1, 256, 257, 258, 1 << 16, 1 << 32, 1<<32 + 1, math.MaxInt - 1, math.MaxInt}
	for _, of := range []func(int) api.Entry{send, recv, exec} {
		for _, n := range ends {
			for field := range 5 {
				for at := range 3 {
					x := of(5)
					*[]*int{&x.Kind, &x.Slot, &x.File, &x.Rec, &x.Byte}[field] = n
					list := [][]api.Entry{{send(5)}, {recv(5)}, {recv(5)}}
					list[at] = append(list[at], x)
					told(t, "a wrong field", list, at, api.ErrForm)
					list[at] = []api.Entry{x}
					told(t, "a wrong field, alone", list, at, api.ErrForm)
				}
			}
		}
	}
	told(t, "as many as none may have", [][]api.Entry{{send(1)}, slices.Repeat([]api.Entry{send(2)}, 65)}, 1, api.ErrForm)
}

// slow: what the document asks of Tables, word by word, of lists whose entries each may be but for their order.
func slow(list [][]api.Entry) (int, api.Errno) {
	for n, table := range list {
		for i, x := range table {
			if x.Kind < 1 || x.Kind > 3 || x.Slot < 1 || x.Slot > 16 || i > 0 && x.Slot <= table[i-1].Slot {
				return n, api.ErrForm
			}
		}
	}
	sends := func(n, slot int) bool {
		return slices.ContainsFunc(list[n], func(x api.Entry) bool { return x.Kind == 1 && x.Slot == slot })
	}
	for n, table := range list {
		for _, x := range table {
			for ahead := range n {
				if x.Kind == 1 && sends(ahead, x.Slot) {
					return n, api.ErrClash
				}
			}
		}
	}
	for n, table := range list {
		for _, x := range table {
			sent := false
			for by := range list {
				sent = sent || sends(by, x.Slot)
			}
			if x.Kind == 2 && !sent {
				return n, api.ErrGap
			}
		}
	}
	return -1, api.OK
}

// small: the table of three slots that a number below 64 stands for.
func small(n int) []api.Entry {
	var out []api.Entry
	for slot := 1; slot <= 3; slot++ {
		switch n & 3 {
		case 1:
			out = append(out, send(slot))
		case 2:
			out = append(out, recv(slot))
		case 3:
			out = append(out, exec(slot))
		}
		n >>= 2
	}
	return out
}

// P12.1: all lists of three nodes in three slots.
func TestAllSmall(t *testing.T) {
	var tables [][]api.Entry
	for n := range 64 {
		tables = append(tables, small(n))
	}
	count := map[api.Errno]int{}
	for n := range 64 * 64 * 64 {
		list := [][]api.Entry{tables[n&63], tables[n>>6&63], tables[n>>12]}
		node, e := slow(list)
		if m, f := Tables(list); m != node || f != e {
			t.Fatalf("Tables of %v is %d, %v, not %d, %v", list, m, f, node, e)
		}
		count[e]++
	}
	if count[api.OK] < 1000 || count[api.ErrClash] < 1000 || count[api.ErrGap] < 1000 {
		t.Error("the lists are too much alike", count)
	}
}

// P12.1: many lists of up to 40 nodes, most of them near to what fits.
func TestManyTables(t *testing.T) {
	random := rand.New(rand.NewSource(12))
	count := map[api.Errno]int{}
	for range 30000 {
		list := make([][]api.Entry, 1+random.Intn(40))
		for slot := 1; slot <= 16; slot++ {
			by := random.Intn(len(list) + 1)
			for n := range list {
				switch {
				case n == by || random.Intn(3000) == 0:
					list[n] = append(list[n], send(slot))
				case by < len(list) && random.Intn(3) == 0 || random.Intn(500) == 0:
					list[n] = append(list[n], recv(slot))
				case random.Intn(5) == 0:
					list[n] = append(list[n], exec(slot))
				}
			}
		}
		if n := random.Intn(5 * len(list)); n < len(list) && len(list[n]) > 0 {
			i := random.Intn(len(list[n]))
			list[n][i].Slot += random.Intn(5) - 2
			list[n][i].Kind += random.Intn(3) - 1
			// Of no kind it is the byte that is wrong.
			list[n][i].Byte = 0
		}
		node, e := slow(list)
		if m, f := Tables(list); m != node || f != e {
			t.Fatalf("Tables of %v is %d, %v, not %d, %v", list, m, f, node, e)
		}
		count[e]++
	}
	for _, e := range []api.Errno{api.OK, api.ErrForm, api.ErrClash, api.ErrGap} {
		if count[e] < 500 {
			t.Error("too few lists of", e, count)
		}
	}
}

// P12.1: more nodes than there ever are on a bus.
func TestLong(t *testing.T) {
	list := slices.Repeat([][]api.Entry{each(recv)}, 50000)
	last := len(list) - 1
	told(t, "nobody sends", list, 0, api.ErrGap)
	list[last] = each(send)
	told(t, "the last one sends", list, -1, api.OK)
	list[0] = []api.Entry{send(16)}
	told(t, "the first one, too", list, last, api.ErrClash)
	list[last] = nil
	told(t, "the first one sends in one slot", list, 1, api.ErrGap)
}

// P12.2: who sends, and by which entry; of lists, too, that may be no tables.
func TestSender(t *testing.T) {
	other := api.Entry{Kind: api.Send, Slot: 4, File: 1, Rec: 1}
	wild := api.Entry{Kind: api.Send, Slot: math.MinInt, File: -1, Rec: 1 << 40, Byte: 99}
	none := api.Entry{}
	for _, c := range []struct {
		name string
		list [][]api.Entry
		slot int
		node int
		x    api.Entry
	}{
		{"nothing", nil, 1, -1, none},
		{"no entries", [][]api.Entry{nil, {}}, 1, -1, none},
		{"one", [][]api.Entry{{send(1)}}, 1, 0, send(1)},
		{"one, in another slot", [][]api.Entry{{send(1)}}, 2, -1, none},
		{"the last slot", [][]api.Entry{each(recv), each(send)}, 16, 1, send(16)},
		{"behind all slots", [][]api.Entry{each(recv), each(send)}, 17, -1, none},
		{"ahead of all slots", [][]api.Entry{each(recv), each(send)}, 0, -1, none},
		{"a slot that would be one, if it were cut", [][]api.Entry{each(send)}, 1<<32 + 1, -1, none},
		{"one that receives, and one that executes", [][]api.Entry{{recv(4)}, {exec(4)}}, 4, -1, none},
		{"behind those", [][]api.Entry{{recv(4)}, {exec(4)}, {send(3), send(4), send(5)}}, 4, 2, send(4)},
		{"behind others of its own slot", [][]api.Entry{{recv(4), exec(4), send(4)}}, 4, 0, send(4)},
		{"two nodes", [][]api.Entry{{send(3)}, {send(4)}, {other}}, 4, 1, send(4)},
		{"two nodes, the other way round", [][]api.Entry{{send(3)}, {other}, {send(4)}}, 4, 1, other},
		{"twice by one node", [][]api.Entry{{send(9), other, send(4), send(4)}}, 4, 0, other},
		{"twice by one node, the other way round", [][]api.Entry{{send(9), send(4), other}}, 4, 0, send(4)},
		{"behind an end", [][]api.Entry{{{Kind: api.End}, send(4)}}, 4, 0, send(4)},
		{"an end is no slot 0's", [][]api.Entry{{{Kind: api.End}}}, 0, -1, none},
		{"nothing is no slot 0's", [][]api.Entry{{{}}}, 0, -1, none},
		{"slot 0, though it may not be", [][]api.Entry{{send(1)}, {{Kind: api.Send}}}, 0, 1, api.Entry{Kind: api.Send}},
		{"slot 17, though it may not be", [][]api.Entry{{send(17)}}, 17, 0, send(17)},
		{"the least number", [][]api.Entry{{send(1), wild}}, math.MinInt, 0, wild},
		{"the greatest number", [][]api.Entry{{send(1), wild, send(math.MaxInt)}}, math.MaxInt, 0, send(math.MaxInt)},
		{"a kind that would be Send, if it were cut", [][]api.Entry{{{Kind: 257, Slot: 4}, {Kind: 1<<32 + 1, Slot: 4}, {Kind: -1, Slot: 4}}}, 4, -1, none},
	} {
		if n, x := Sender(c.list, c.slot); n != c.node || x != c.x {
			t.Errorf("%s: Sender is %d, %v, not %d, %v", c.name, n, x, c.node, c.x)
		}
	}
}

// P12.2: all slots of many lists, in any order.
func TestManySenders(t *testing.T) {
	random := rand.New(rand.NewSource(122))
	for range 20000 {
		list := make([][]api.Entry, random.Intn(5))
		for n := range list {
			for range random.Intn(6) {
				x := api.Entry{Kind: random.Intn(6), Slot: random.Intn(20) - 1, File: random.Intn(70), Rec: random.Intn(300), Byte: random.Intn(5)}
				list[n] = append(list[n], x)
			}
		}
		for slot := -2; slot <= 20; slot++ {
			node, x := -1, api.Entry{}
			// Backwards, so that what is found last is the first one.
			for n := len(list) - 1; n >= 0; n-- {
				for i := len(list[n]) - 1; i >= 0; i-- {
					if list[n][i].Kind == 1 && list[n][i].Slot == slot {
						node, x = n, list[n][i]
					}
				}
			}
			if n, y := Sender(list, slot); n != node || y != x {
				t.Fatalf("Sender of %v, %d is %d, %v, not %d, %v", list, slot, n, y, node, x)
			}
		}
	}
}

// P12.1, P12.2: what is handed in is not changed, spare room included; and nothing is kept.
func TestMemory(t *testing.T) {
	room := append(each(send), slices.Repeat([]api.Entry{{Kind: 9}}, 8)...)
	was := slices.Clone(room)
	list := append(make([][]api.Entry, 0, 8), room[:5], each(recv)[:5], nil)
	spare := list[:cap(list)]
	for range 3 {
		told(t, "what fits", list, -1, api.OK)
		told(t, "what clashes", [][]api.Entry{room[:5], room[:5]}, 1, api.ErrClash)
		told(t, "what has a gap", [][]api.Entry{list[1]}, 0, api.ErrGap)
		told(t, "what has no form", [][]api.Entry{room}, 0, api.ErrForm)
		if n, x := Sender(list, 3); n != 0 || x != send(3) {
			t.Error(n, x)
		}
		Sender([][]api.Entry{room}, 99)
	}
	if !slices.Equal(room, was) || !slices.Equal(list[1], each(recv)[:5]) || len(list) != 3 {
		t.Error("what was handed in was changed")
	}
	for _, table := range spare[3:] {
		if table != nil {
			t.Error("spare room was changed")
		}
	}
}
