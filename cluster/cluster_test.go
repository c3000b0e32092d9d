package cluster

import (
	"errors"
	"maps"
	"math"
	"math/bits"
	"math/rand"
	"slices"
	"strconv"
	"strings"
	"testing"

	"hayward/api"
	"hayward/file"
	"hayward/rodl"
	"hayward/rose"
	"hayward/watch"
)

// wild: numbers that are no node's; some of them would be one, if they were cut to a byte or to 32 bits.
var wild = []int{math.MinInt, math.MinInt + 1, -1 << 32, -1<<32 + 1, -1 << 16, -256, -255, -3, -2, -1, 256, 257, 1 << 16, 1 << 32, 1<<32 + 1, 1 << 62, math.MaxInt - 1, math.MaxInt}

// ok: without an error.
func ok(t *testing.T, e api.Errno) {
	t.Helper()
	if e != api.OK {
		t.Fatal(e)
	}
}

// recs: a file of those records, behind a header.
func recs(t *testing.T, perm int, list ...api.Rec) api.File {
	t.Helper()
	f, e := file.New(perm, len(list))
	ok(t, e)
	copy(f.Recs[1:], list)
	return f
}

// table, order: a round's table as a file, and a sequence.
func table(t *testing.T, list ...api.Entry) api.File {
	t.Helper()
	f, e := rodl.File(list)
	ok(t, e)
	return f
}

func order(t *testing.T, list ...int) api.File {
	t.Helper()
	f, e := rose.File(list)
	ok(t, e)
	return f
}

// send, recv and exec are entries of file 1.
func send(slot, rec, b int) api.Entry {
	return api.Entry{Kind: api.Send, Slot: slot, File: 1, Rec: rec, Byte: b}
}

func recv(slot, rec, b int) api.Entry {
	return api.Entry{Kind: api.Recv, Slot: slot, File: 1, Rec: rec, Byte: b}
}

func exec(slot, rec int) api.Entry {
	return api.Entry{Kind: api.Exec, Slot: slot, File: 1, Rec: rec}
}

// named: files by rising numbers.
func named(files map[int]api.File) []api.Named {
	var list []api.Named
	for _, n := range slices.Sorted(maps.Keys(files)) {
		list = append(list, api.Named{N: n, File: files[n]})
	}
	return list
}

// plan: a node of those files that goes at a rate.
func plan(rate int, files map[int]api.File) api.Plan {
	return api.Plan{Files: named(files), Rate: rate}
}

// master: a node with the sequence 0 3, those records in file 1, and a table of round 0.
func master(t *testing.T, rec api.Rec, list ...api.Entry) map[int]api.File {
	t.Helper()
	return map[int]api.File{1: recs(t, 7, rec, api.Rec{}), 32: table(t, list...), 40: order(t, 0, 3)}
}

// made: a cluster of nodes with those files, whose oscillators are as far off as they may.
func made(t *testing.T, files ...map[int]api.File) *Cluster {
	t.Helper()
	var list []api.Plan
	for i, f := range files {
		list = append(list, plan([]int{2000, -2000}[i%2], f))
	}
	c, e := New(list)
	ok(t, e)
	return c
}

// pair: a cluster of which node 0 sends byte 0 of record 1 in slot 1, and nodes 1 and 2 receive that in record 2.
func pair(t *testing.T) *Cluster {
	t.Helper()
	return made(t, master(t, api.Rec{17}, send(1, 1, 0)), master(t, api.Rec{}, recv(1, 2, 0)), master(t, api.Rec{}, recv(1, 2, 3)))
}

// do: something happens, and answers that.
func do(t *testing.T, c *Cluster, x api.Act, want api.Errno) {
	t.Helper()
	if e := c.Do(x); e != want {
		t.Fatalf("Do of %+v is %v, not %v", x, e, want)
	}
}

// rounds: so many rounds go by, all without an error.
func rounds(t *testing.T, c *Cluster, n int) {
	t.Helper()
	for range n {
		do(t, c, api.Act{Kind: api.ActRound}, api.OK)
	}
}

// write: a record of file 1 is set.
func write(n, rec int, v api.Rec) api.Act {
	return api.Act{Kind: api.ActWrite, Node: n, File: 1, Rec: rec, Val: v}
}

// get: a node's record; nothing, if there is none.
func get(c *Cluster, n, number, rec int) api.Rec {
	for _, f := range c.Files(n) {
		if f.N == number && rec < len(f.File.Recs) {
			return f.File.Recs[rec]
		}
	}
	return api.Rec{}
}

// has: a node's record of file 1 is that.
func has(t *testing.T, c *Cluster, n, rec int, want api.Rec) {
	t.Helper()
	if v := get(c, n, 1, rec); v != want {
		t.Fatalf("record %d of node %d is %v, not %v", rec, n, v, want)
	}
}

// at: the place, and what the masters are.
func at(t *testing.T, c *Cluster, place, zero, one int) {
	t.Helper()
	if c.Place() != place || c.Role(0) != zero || c.Role(1) != one {
		t.Fatalf("the place is %d, the masters are %d and %d, not %d, %d and %d", c.Place(), c.Role(0), c.Role(1), place, zero, one)
	}
}

// alike: two lists of files.
func alike(a, b []api.Named) bool {
	return slices.EqualFunc(a, b, func(x, y api.Named) bool { return x.N == y.N && file.Same(x.File, y.File) })
}

// state is all that can be asked of a cluster.
type state struct {
	files [][]api.Named
	live  []bool
	role  []int
	place int
}

func stateOf(c *Cluster) state {
	s := state{place: c.Place()}
	for n := range c.Nodes() {
		s.files = append(s.files, c.Files(n))
		s.live = append(s.live, c.Live(n))
		s.role = append(s.role, c.Role(n))
	}
	return s
}

func (s state) same(o state) bool {
	return slices.EqualFunc(s.files, o.files, alike) && slices.Equal(s.live, o.live) && slices.Equal(s.role, o.role) && s.place == o.place
}

// refused: an act answers that, and nothing has changed.
func refused(t *testing.T, c *Cluster, x api.Act, want api.Errno) {
	t.Helper()
	was := stateOf(c)
	do(t, c, x, want)
	if !was.same(stateOf(c)) {
		t.Fatalf("%+v is %v, and something has changed", x, want)
	}
}

// fails: New answers that, and no cluster.
func fails(t *testing.T, name string, want api.Errno, list ...api.Plan) {
	t.Helper()
	if c, e := New(list); c != nil || e != want {
		t.Errorf("%s: New is %v and %v, not %v", name, c, e, want)
	}
}

// P20.1: what New makes of plans that may be.
func TestNew(t *testing.T) {
	files := []map[int]api.File{
		{0: recs(t, 0), 40: order(t, 5, 0, 5)},
		{1: recs(t, 7, api.Rec{1, 2, 3, 4}, api.Rec{5}), 40: order(t, 5, 0, 5), 63: recs(t, 2, make([]api.Rec, 255)...)},
		{},
		{40: order(t, 1)},
	}
	c, e := New([]api.Plan{plan(2000, files[0]), plan(-2000, files[1]), plan(0, files[2]), plan(1, files[3])})
	ok(t, e)
	at(t, c, 0, api.Active, api.Shadow)
	if c.Nodes() != 4 {
		t.Errorf("there are %d nodes", c.Nodes())
	}
	for n, f := range files {
		if !c.Live(n) || !alike(c.Files(n), named(f)) {
			t.Errorf("node %d is live: %v, with %v", n, c.Live(n), c.Files(n))
		}
	}
	for n, rate := range []int{2000, -2000, 0, 1} {
		if c.nodes[n].rate != rate {
			t.Errorf("node %d goes at %d, not at %d", n, c.nodes[n].rate, rate)
		}
	}
	for _, n := range append([]int{2, 3, 4, 5}, wild...) {
		if c.Role(n) != 0 {
			t.Errorf("the role of %d is %d", n, c.Role(n))
		}
		if n != 2 && n != 3 && (c.Live(n) || c.Files(n) != nil) {
			t.Errorf("there is a node %d", n)
		}
	}
}

// P20.1: from 2 to 32 nodes; ErrArg is named ahead of ErrForm.
func TestNewCount(t *testing.T) {
	good, bad := plan(0, map[int]api.File{40: order(t, 0)}), api.Plan{Rate: 2001}
	for n := range 70 {
		c, e := New(slices.Repeat([]api.Plan{good}, n))
		if want := n >= 2 && n <= 32; (e == api.OK) != want || (c != nil) != want || !want && e != api.ErrArg {
			t.Errorf("New of %d is %v and %v", n, c, e)
		}
		if c.Nodes() != n && e == api.OK {
			t.Errorf("of %d there are %d", n, c.Nodes())
		}
		list := append(slices.Repeat([]api.Plan{good}, n), bad)
		want := api.ErrForm
		if n+1 < 2 || n+1 > 32 {
			want = api.ErrArg
		}
		fails(t, "a bad one at the end", want, list...)
	}
}

// P20.1: plans that may not be, at each place, ahead of sequences that are none.
func TestNewForm(t *testing.T) {
	good, header := recs(t, 3), recs(t, 3, api.Rec{})
	header.Recs[0][3]++
	bad := map[string]api.Plan{
		"without records": {Files: []api.Named{{N: 1}}},
		"its header":      {Files: []api.Named{{N: 1, File: header}}},
		"its permissions": {Files: []api.Named{{N: 1, File: api.File{Perm: 8, Recs: good.Recs}}}},
		"not its header":  {Files: []api.Named{{N: 1, File: api.File{Perm: 2, Recs: good.Recs}}}},
		"too long":        {Files: []api.Named{{N: 1, File: api.File{Perm: 3, Recs: make([]api.Rec, 257)}}}},
		"one number":      {Files: []api.Named{{N: 7, File: good}, {N: 7, File: good}}},
		"falling":         {Files: []api.Named{{N: 7, File: good}, {N: 6, File: good}}},
		"falling to 0":    {Files: []api.Named{{N: 1, File: good}, {N: 0, File: good}}},
		"falling, rising": {Files: []api.Named{{N: 7, File: good}, {N: 9, File: good}, {N: 8, File: good}, {N: 10, File: good}}},
		"the second one":  {Files: []api.Named{{N: 7, File: good}, {N: 8, File: header}}},
		"64":              {Files: []api.Named{{N: 64, File: good}}},
		"a wild rate":     {Files: []api.Named{{N: 40, File: order(t, 0)}}, Rate: 2001},
	}
	for _, n := range append(wild, 64, 65) {
		bad["number "+strconv.Itoa(n)] = api.Plan{Files: []api.Named{{N: n, File: good}}}
	}
	fit := plan(0, map[int]api.File{40: order(t, 0)})
	for name, p := range bad {
		for n := range 4 {
			list := slices.Repeat([]api.Plan{fit}, 4)
			list[n] = p
			fails(t, name, api.ErrForm, list...)
			fails(t, name+", no sequences", api.ErrForm, append(make([]api.Plan, 3), p)...)
		}
	}
	for _, rate := range append(wild, -20000, -2002, -2001, 2001, 2002, 20000) {
		if rate >= -2000 && rate <= 2000 {
			continue
		}
		fails(t, "a wild rate", api.ErrForm, fit, fit, api.Plan{Rate: rate})
		fails(t, "a master's wild rate", api.ErrForm, api.Plan{Files: fit.Files, Rate: rate}, fit)
	}
}

// P20.1: all numbers that a plan may have, and all rates at its ends.
func TestNewLimits(t *testing.T) {
	all := map[int]api.File{}
	for n := range 64 {
		all[n] = recs(t, n%8)
	}
	all[40] = order(t, 0)
	for _, rate := range []int{-2000, -1999, -1, 0, 1, 1999, 2000} {
		c, e := New([]api.Plan{plan(rate, all), plan(-rate, all)})
		ok(t, e)
		if len(c.Files(0)) != 64 || !alike(c.Files(1), named(all)) {
			t.Error("not all files are there")
		}
	}
}

// P20.1: both masters have to have a sequence, and the same one; of others it is not asked.
func TestNewState(t *testing.T) {
	of := func(f api.File) api.Plan { return plan(0, map[int]api.File{40: f}) }
	good, rest := of(order(t, 0, 3)), order(t, 0, 3)
	rest.Recs[2][1] = 1
	none := map[string]api.Plan{
		"without files":     {},
		"another number":    plan(0, map[int]api.File{32: order(t, 0, 3), 39: order(t, 0, 3), 41: order(t, 0, 3)}),
		"no numbers":        of(recs(t, 3)),
		"round 6":           of(recs(t, 3, api.Rec{0}, api.Rec{6})),
		"other permissions": of(recs(t, 7, api.Rec{0}, api.Rec{3})),
		"more in a record":  of(rest),
		"65 numbers":        of(recs(t, 3, make([]api.Rec, 65)...)),
	}
	for name, p := range none {
		fails(t, name+", of 0", api.ErrState, p, good)
		fails(t, name+", of 1", api.ErrState, good, p)
		fails(t, name+", of both", api.ErrState, p, p)
		if c, e := New([]api.Plan{good, good, p}); c == nil || e != api.OK {
			t.Errorf("%s, of 2: %v", name, e)
		}
	}
	for _, other := range [][]int{{0}, {0, 4}, {1, 3}, {3, 0}, {0, 3, 0}, {0, 3, 0, 3}, {0, 3, 3}} {
		fails(t, "another one, of 1", api.ErrState, good, of(order(t, other...)))
		fails(t, "another one, of 0", api.ErrState, of(order(t, other...)), good)
	}
	long := of(order(t, make([]int, 64)...))
	if _, e := New([]api.Plan{long, long}); e != api.OK {
		t.Error(e)
	}
}

// What is wrong with a sequence tells whose it is, and is wrapped; both masters' errors are joined.
func TestFlaw(t *testing.T) {
	err := errors.Join(flaw{0, api.ErrForm}, flaw{1, api.ErrForm})
	if !errors.Is(err, api.ErrForm) || errors.Is(err, api.ErrNone) || number(err) != api.ErrForm {
		t.Error(err)
	}
	var f flaw
	for n := range 2 {
		if _, none := made(t, master(t, api.Rec{}), master(t, api.Rec{})).sequence(n); none != nil {
			t.Error(none)
		}
		if list, none := (&Cluster{nodes: make([]node, 2)}).sequence(n); list != nil || !errors.Is(none, api.ErrForm) || !errors.As(none, &f) || f.master != n {
			t.Error(list, none)
		}
	}
	if !errors.As(err, &f) || f.master != 0 || !strings.Contains(err.Error(), "master 0") || !strings.Contains(err.Error(), "master 1") {
		t.Error(err)
	}
}

// All calls of a nil Cluster; and one that New has not made doesn't panic.
func TestNil(t *testing.T) {
	for _, c := range []*Cluster{nil, {}} {
		for _, n := range append([]int{0, 1, 2, 31}, wild...) {
			v, e := c.Serve(n, api.Addr{File: n}, api.Rec{1})
			if v != (api.Rec{}) || e != api.ErrArg || c.Files(n) != nil || c.Live(n) || c.Role(n) != 0 {
				t.Errorf("of node %d: %v %v %v %v %v", n, v, e, c.Files(n), c.Live(n), c.Role(n))
			}
		}
		if c.Nodes() != 0 || c.Place() != 0 {
			t.Error(c.Nodes(), c.Place())
		}
		for kind := -1; kind < 9; kind++ {
			if e := c.Do(api.Act{Kind: kind}); c == nil && e != api.ErrArg {
				t.Errorf("Do of kind %d is %v", kind, e)
			}
		}
	}
}

// P20.2: kinds that there are not, and nodes that there are not; but of rounds and of what is spoilt no node is asked.
func TestActs(t *testing.T) {
	c := pair(t)
	for _, kind := range append(wild, 0, 7, 8) {
		for _, n := range []int{0, 1, 2, 3, -1} {
			refused(t, c, api.Act{Kind: kind, Node: n, File: 1, Rec: 1, Slot: 1, Mask: 2}, api.ErrArg)
		}
	}
	for _, n := range append(wild, 3, 4, 31, 32) {
		for _, kind := range []int{api.ActWrite, api.ActCrash, api.ActRestart, api.ActDrift} {
			refused(t, c, api.Act{Kind: kind, Node: n, File: 1, Rec: 1, Val: api.Rec{9}, Rate: 1}, api.ErrArg)
		}
		do(t, c, api.Act{Kind: api.ActRound, Node: n, File: n, Rec: n, Slot: n, Mask: n, Rate: n}, api.OK)
		do(t, c, api.Act{Kind: api.ActSpoil, Node: n, File: n, Rec: n, Rate: n}, api.OK)
	}
	has(t, c, 1, 2, api.Rec{17})
}

// P20.2: a round at each place of the sequence, by that round's tables of all nodes.
func TestRound(t *testing.T) {
	one := map[int]api.File{1: recs(t, 7, make([]api.Rec, 8)...), 38: table(t, send(1, 1, 0)), 40: order(t, 5, 0, 4, 1, 3, 2, 2)}
	two := maps.Clone(one)
	delete(two, 38)
	for round := range 6 {
		one[32+round] = table(t, send(1+round, 1, 0))
		two[32+round] = table(t, recv(1+round, 1+round, 3), exec(10, 7))
	}
	c := made(t, two, one)
	got := make([]api.Rec, 9)
	for i, round := range []int{5, 0, 4, 1, 3, 2, 2, 5, 0, 4} {
		if c.Place() != i%7 {
			t.Fatalf("at round %d the place is %d", i, c.Place())
		}
		do(t, c, write(1, 1, api.Rec{byte(i + 1)}), api.OK)
		rounds(t, c, 1)
		got[1+round] = api.Rec{0, 0, 0, byte(i + 1)}
		got[7][3]++
		for rec := 1; rec < 9; rec++ {
			has(t, c, 0, rec, got[rec])
		}
	}
}

// P20.2: all is as it was ahead of the round: masters swap a byte each, and a ring goes on by one.
func TestSwap(t *testing.T) {
	c := made(t, master(t, api.Rec{1}, send(1, 1, 0), recv(2, 1, 0)), master(t, api.Rec{2}, recv(1, 1, 0), send(2, 1, 0)))
	for i := range 6 {
		has(t, c, 0, 1, api.Rec{byte(1 + i%2)})
		has(t, c, 1, 1, api.Rec{byte(2 - i%2)})
		rounds(t, c, 2)
	}
}

// P20.2: a table that is none any more is as none: its node neither sends nor receives.
func TestNoTable(t *testing.T) {
	for name, v := range map[string]api.Rec{
		"no kind":     {0, 1, 1, 1},
		"the header":  {1, 1, 1, 0},
		"no slot":     {1, 17, 1, 1},
		"more behind": {4, 0, 0, 1},
	} {
		c := pair(t)
		do(t, c, api.Act{Kind: api.ActWrite, Node: 2, File: 32, Rec: 1, Val: v}, api.OK)
		rounds(t, c, 1)
		has(t, c, 1, 2, api.Rec{17})
		has(t, c, 2, 2, api.Rec{})
		if c.Place() != 1 {
			t.Errorf("%s: the place is %d", name, c.Place())
		}
		// Without the one that sends, who receives finds nobody.
		rounds(t, c, 1)
		do(t, c, api.Act{Kind: api.ActWrite, Node: 0, File: 32, Rec: 1, Val: v}, api.OK)
		do(t, c, api.Act{Kind: api.ActRound}, api.ErrGap)
	}
}

// P20.2: tables that don't fit are told, no store has changed, but the place has, and what was spoilt is over.
func TestRoundErrors(t *testing.T) {
	for _, x := range []struct {
		list []api.Entry
		e    api.Errno
	}{{[]api.Entry{send(1, 1, 0)}, api.ErrClash}, {[]api.Entry{recv(2, 1, 0)}, api.ErrGap}} {
		c := made(t, master(t, api.Rec{17}, send(1, 1, 0), exec(9, 1)), master(t, api.Rec{}, recv(1, 2, 0)), master(t, api.Rec{}, x.list...))
		do(t, c, api.Act{Kind: api.ActSpoil, Slot: 1, Mask: 2}, api.OK)
		was := stateOf(c)
		do(t, c, api.Act{Kind: api.ActRound}, x.e)
		at(t, c, 1, api.Active, api.Shadow)
		was.place = 1
		if !was.same(stateOf(c)) {
			t.Errorf("%v, and something has changed", x.e)
		}
		// A table is asked of a node that is down, too.
		rounds(t, c, 1)
		do(t, c, api.Act{Kind: api.ActCrash, Node: 2}, api.OK)
		do(t, c, api.Act{Kind: api.ActRound}, x.e)
		do(t, c, api.Act{Kind: api.ActRestart, Node: 2}, api.OK)
		do(t, c, api.Act{Kind: api.ActWrite, Node: 2, File: 32, Rec: 1, Val: api.Rec{4}}, api.OK)
		rounds(t, c, 2)
		has(t, c, 1, 2, api.Rec{17})
	}
}

// P20.2: nobody opens a round for four times; the fifth one is opened at the place at which the sequence was.
func TestTakeover(t *testing.T) {
	for ahead := range 2 {
		c := pair(t)
		rounds(t, c, ahead)
		do(t, c, api.Act{Kind: api.ActWrite, Node: 1, File: 32, Rec: 1, Val: api.Rec{1, 1, 1, 1}}, api.OK)
		do(t, c, api.Act{Kind: api.ActWrite, Node: 1, File: 1, Rec: 1, Val: api.Rec{99}}, api.OK)
		do(t, c, api.Act{Kind: api.ActWrite, Node: 0, File: 32, Rec: 1, Val: api.Rec{2, 1, 1, 2}}, api.OK)
		do(t, c, api.Act{Kind: api.ActCrash, Node: 0}, api.OK)
		was := stateOf(c)
		at(t, c, ahead, api.Down, api.Shadow)
		rounds(t, c, 4)
		if !was.same(stateOf(c)) {
			t.Fatal("something has changed in silent rounds")
		}
		rounds(t, c, 1)
		at(t, c, 1-ahead, api.Down, api.Active)
		rounds(t, c, ahead)
		has(t, c, 2, 2, api.Rec{0, 0, 0, 99})
		// Who was down has nothing new, until it is back.
		has(t, c, 0, 2, api.Rec{})
		do(t, c, api.Act{Kind: api.ActRestart, Node: 0}, api.OK)
		at(t, c, 1, api.Listen, api.Active)
		rounds(t, c, 2)
		at(t, c, 1, api.Shadow, api.Active)
		has(t, c, 0, 2, api.Rec{99})
		has(t, c, 0, 1, api.Rec{17})
	}
}

// P20.2: both are down, and come back: the first one opens a round behind eight silent ones.
func TestBothDown(t *testing.T) {
	c := pair(t)
	for n := range 3 {
		do(t, c, api.Act{Kind: api.ActCrash, Node: n}, api.OK)
	}
	rounds(t, c, 20)
	at(t, c, 0, api.Down, api.Down)
	for n := range 3 {
		do(t, c, api.Act{Kind: api.ActRestart, Node: n}, api.OK)
	}
	rounds(t, c, 8)
	at(t, c, 0, api.Listen, api.Listen)
	has(t, c, 1, 2, api.Rec{})
	rounds(t, c, 1)
	at(t, c, 1, api.Active, api.Shadow)
	has(t, c, 1, 2, api.Rec{17})
}

// P20.2: each round goes by the sequence of the master that opens it.
func TestOwnSequence(t *testing.T) {
	c := pair(t)
	sets := func(n int, v api.Rec) {
		t.Helper()
		do(t, c, api.Act{Kind: api.ActWrite, Node: n, File: 40, Rec: 1, Val: v}, api.OK)
	}
	// Node 1's is of no matter while it is the shadow; node 2's never is.
	sets(1, api.Rec{9})
	sets(2, api.Rec{9})
	rounds(t, c, 2)
	has(t, c, 2, 2, api.Rec{0, 0, 0, 17})
	do(t, c, write(0, 1, api.Rec{18}), api.OK)
	do(t, c, api.Act{Kind: api.ActCrash, Node: 0}, api.OK)
	rounds(t, c, 4)
	do(t, c, api.Act{Kind: api.ActRestart, Node: 0}, api.OK)
	// It takes over, though it has nothing to open the round by, and node 0 hears that.
	do(t, c, api.Act{Kind: api.ActSpoil, Slot: 1, Mask: 2}, api.OK)
	do(t, c, api.Act{Kind: api.ActRound}, api.ErrForm)
	at(t, c, 0, api.Shadow, api.Active)
	has(t, c, 2, 2, api.Rec{0, 0, 0, 17})
	for range 3 {
		refused(t, c, api.Act{Kind: api.ActRound}, api.ErrForm)
	}
	sets(1, api.Rec{0})
	rounds(t, c, 1)
	has(t, c, 2, 2, api.Rec{0, 0, 0, 18})
	// Another round than node 0's stands at the second place now.
	do(t, c, write(0, 1, api.Rec{19}), api.OK)
	do(t, c, api.Act{Kind: api.ActWrite, Node: 1, File: 40, Rec: 2, Val: api.Rec{0}}, api.OK)
	rounds(t, c, 1)
	has(t, c, 2, 2, api.Rec{0, 0, 0, 19})
	at(t, c, 0, api.Shadow, api.Active)
}

// P20.2: a sequence that is none any more, whatever is wrong with it; it may be mended.
func TestNoSequence(t *testing.T) {
	for _, v := range []api.Rec{{6}, {7}, {255}, {0, 1}, {0, 0, 1}, {0, 0, 0, 1}} {
		for rec := 1; rec < 3; rec++ {
			c := pair(t)
			was := get(c, 0, 40, rec)
			do(t, c, api.Act{Kind: api.ActWrite, Node: 0, File: 40, Rec: rec, Val: v}, api.OK)
			refused(t, c, api.Act{Kind: api.ActRound}, api.ErrForm)
			do(t, c, api.Act{Kind: api.ActWrite, Node: 0, File: 40, Rec: rec, Val: was}, api.OK)
			rounds(t, c, 1)
			has(t, c, 1, 2, api.Rec{17})
			at(t, c, 1, api.Active, api.Shadow)
		}
	}
}

// P20.2: of a place that the sequence has not, the first one. (No act makes such a place: a file stays as long as it is.)
func TestPlace(t *testing.T) {
	for _, place := range append(wild, 2, 3) {
		c := pair(t)
		c.place = place
		rounds(t, c, 1)
		at(t, c, 1, api.Active, api.Shadow)
		has(t, c, 1, 2, api.Rec{17})
	}
}

// P20.2: whatever a record is, ActWrite sets it, whatever is permitted; no header, no other one, and none of a node that is down.
func TestWrite(t *testing.T) {
	for perm := range 8 {
		c := made(t, map[int]api.File{3: recs(t, perm, api.Rec{1}, api.Rec{2}), 40: order(t, 0)}, map[int]api.File{40: order(t, 0)})
		x := api.Act{Kind: api.ActWrite, File: 3, Rec: 2, Val: api.Rec{7, 8, 9, 10}, Slot: -1, Mask: -1, Rate: 5000}
		do(t, c, x, api.OK)
		if get(c, 0, 3, 2) != x.Val || get(c, 0, 3, 1) != (api.Rec{1}) {
			t.Errorf("%v", c.Files(0))
		}
		for _, n := range append(wild, 0, 3, 4, 255) {
			refused(t, c, api.Act{Kind: api.ActWrite, File: 3, Rec: n, Val: x.Val}, api.ErrNone)
			if n != 3 {
				refused(t, c, api.Act{Kind: api.ActWrite, File: n, Rec: 1, Val: x.Val}, api.ErrNone)
			}
		}
		do(t, c, api.Act{Kind: api.ActCrash}, api.OK)
		x.Val = api.Rec{}
		refused(t, c, x, api.ErrState)
		refused(t, c, api.Act{Kind: api.ActWrite, File: 9}, api.ErrState)
		do(t, c, api.Act{Kind: api.ActRestart}, api.OK)
		do(t, c, x, api.OK)
		if get(c, 0, 3, 2) != x.Val {
			t.Errorf("%v", c.Files(0))
		}
	}
}

// heard: whether that comes through, a round of the pair in which some of the bits of slot 1 are turned.
func heard(t *testing.T, c *Cluster, v api.Rec) {
	t.Helper()
	do(t, c, write(1, 2, api.Rec{200}), api.OK)
	rounds(t, c, 1)
	has(t, c, 1, 2, v)
	rounds(t, c, 1)
}

// spoil: some bits of a slot are turned in the next round.
func spoil(t *testing.T, c *Cluster, slot, mask int) {
	t.Helper()
	do(t, c, api.Act{Kind: api.ActSpoil, Slot: slot, Mask: mask}, api.OK)
}

// P20.2: what was spoilt is so in the next round alone, each mask behind the one ahead; of each slot its own.
func TestSpoil(t *testing.T) {
	c := pair(t)
	heard(t, c, api.Rec{17})
	spoil(t, c, 1, 2)
	heard(t, c, api.Rec{200})
	heard(t, c, api.Rec{17})
	// Two bits are turned, which no parity tells.
	spoil(t, c, 1, 2)
	spoil(t, c, 1, 4)
	heard(t, c, api.Rec{17 ^ 3})
	heard(t, c, api.Rec{17})
	// One that is turned back.
	spoil(t, c, 1, 2)
	spoil(t, c, 1, 2)
	heard(t, c, api.Rec{17})
	for _, slot := range append(wild, 0, 2, 16, 17) {
		spoil(t, c, slot, 2)
		heard(t, c, api.Rec{17})
	}
	// Bit 0, and all beyond bit 10, are never turned.
	for _, mask := range []int{0, 1, 1 << 11, 1<<11 | 1, 1 << 32, 1<<32 | 1, 1 << 62, math.MinInt, ^(1<<11 - 2)} {
		spoil(t, c, 1, mask)
		heard(t, c, api.Rec{17})
	}
	for _, mask := range []int{-1, -2, math.MaxInt, 1<<11 - 1, 1 << 10, 1 << 9} {
		spoil(t, c, 1, mask)
		heard(t, c, api.Rec{200})
	}
}

// P20.2: 32 things may be spoilt, the next one is refused, and counts for nothing; behind the round there may be 32 more.
func TestSpoilFull(t *testing.T) {
	c := pair(t)
	for range 3 {
		for i := range 32 {
			spoil(t, c, i, 0)
		}
		for range 3 {
			refused(t, c, api.Act{Kind: api.ActSpoil, Slot: 1, Mask: 2}, api.ErrFull)
		}
		heard(t, c, api.Rec{17})
		for i := range 31 {
			spoil(t, c, i+2, -1)
		}
		spoil(t, c, 1, 2)
		heard(t, c, api.Rec{200})
	}
}

// P20.2: what was spoilt is over behind a round that nobody opens.
func TestSpoilSilent(t *testing.T) {
	c := pair(t)
	do(t, c, api.Act{Kind: api.ActCrash, Node: 1}, api.OK)
	do(t, c, api.Act{Kind: api.ActCrash, Node: 0}, api.OK)
	for range 12 {
		for i := range 32 {
			spoil(t, c, i%4, 2)
		}
		refused(t, c, api.Act{Kind: api.ActSpoil}, api.ErrFull)
		rounds(t, c, 1)
	}
	do(t, c, api.Act{Kind: api.ActRestart, Node: 0}, api.OK)
	rounds(t, c, 8)
	has(t, c, 2, 2, api.Rec{})
	rounds(t, c, 1)
	has(t, c, 2, 2, api.Rec{0, 0, 0, 17})
}

// P20.2: a node that is no master goes down, and comes back; what it has stays, and what it sends is not heard.
func TestCrash(t *testing.T) {
	c := made(t, master(t, api.Rec{}, recv(1, 2, 0)), master(t, api.Rec{}, recv(1, 2, 1)), master(t, api.Rec{5}, send(1, 1, 0), exec(2, 1)))
	down, up := api.Act{Kind: api.ActCrash, Node: 2}, api.Act{Kind: api.ActRestart, Node: 2}
	for i := range 3 {
		refused(t, c, up, api.ErrState)
		do(t, c, down, api.OK)
		refused(t, c, down, api.ErrState)
		if c.Live(2) || !c.Live(0) || !c.Live(1) || c.Role(2) != 0 {
			t.Fatal(stateOf(c))
		}
		was := c.Files(2)
		do(t, c, write(0, 2, api.Rec{99}), api.OK)
		rounds(t, c, 2)
		has(t, c, 0, 2, api.Rec{99})
		if !alike(was, c.Files(2)) {
			t.Fatal("a node that is down has changed")
		}
		do(t, c, up, api.OK)
		if !c.Live(2) {
			t.Fatal("it is not back")
		}
		rounds(t, c, 2)
		has(t, c, 0, 2, api.Rec{5})
		has(t, c, 1, 2, api.Rec{0, 5})
		has(t, c, 2, 1, api.Rec{5, 0, 0, byte(i + 1)})
		at(t, c, 0, api.Active, api.Shadow)
	}
}

// P20.2: masters that go down and come back, and are not let to twice.
func TestCrashMasters(t *testing.T) {
	for n := range 2 {
		c := pair(t)
		down, up := api.Act{Kind: api.ActCrash, Node: n}, api.Act{Kind: api.ActRestart, Node: n}
		refused(t, c, up, api.ErrState)
		do(t, c, down, api.OK)
		refused(t, c, down, api.ErrState)
		if c.Live(n) || c.Role(n) != api.Down || !c.Live(1-n) {
			t.Fatal(stateOf(c))
		}
		do(t, c, up, api.OK)
		refused(t, c, up, api.ErrState)
		if !c.Live(n) || c.Role(n) != api.Listen {
			t.Fatal(stateOf(c))
		}
	}
}

// P20.2: an oscillator goes at another rate, live or not; one that is too far off is refused.
func TestDrift(t *testing.T) {
	c := pair(t)
	do(t, c, api.Act{Kind: api.ActCrash, Node: 2}, api.OK)
	for n := range 3 {
		for _, rate := range []int{0, 2000, -2000, 1, -1, 1999, -1999} {
			refused(t, c, api.Act{Kind: api.ActDrift, Node: n, Rate: rate}, api.OK)
			if c.nodes[n].rate != rate {
				t.Errorf("node %d goes at %d, not at %d", n, c.nodes[n].rate, rate)
			}
			for _, far := range append(wild, 2001, -2001, 2002, 20000, -20000) {
				if far >= -2000 && far <= 2000 {
					continue
				}
				refused(t, c, api.Act{Kind: api.ActDrift, Node: n, Rate: far}, api.ErrArg)
				if c.nodes[n].rate != rate {
					t.Errorf("node %d goes at %d, not at %d", n, c.nodes[n].rate, rate)
				}
			}
		}
	}
	rounds(t, c, 1)
	has(t, c, 1, 2, api.Rec{17})
}

// P20.3: what a node is asked between two rounds.
func TestServe(t *testing.T) {
	c := made(t, map[int]api.File{3: recs(t, 7, api.Rec{1}, api.Rec{0, 0, 0, 255}), 4: recs(t, 0, api.Rec{5}), 40: order(t, 0)}, map[int]api.File{40: order(t, 0)})
	asks := func(n int, a api.Addr, want api.Rec, e api.Errno) {
		t.Helper()
		if v, got := c.Serve(n, a, api.Rec{6, 7, 8, 9}); v != want || got != e {
			t.Fatalf("Serve of %d, %v is %v and %v, not %v and %v", n, a, v, got, want, e)
		}
	}
	asks(0, api.Addr{Op: api.OpRead, File: 3, Rec: 1}, api.Rec{1}, api.OK)
	asks(0, api.Addr{Op: api.OpExec, File: 3, Rec: 2}, api.Rec{0, 0, 1, 0}, api.OK)
	asks(0, api.Addr{Op: api.OpRead, File: 3, Rec: 2}, api.Rec{0, 0, 1, 0}, api.OK)
	asks(0, api.Addr{Op: api.OpWrite, File: 3, Rec: 1}, api.Rec{6, 7, 8, 9}, api.OK)
	if get(c, 0, 3, 1) != (api.Rec{6, 7, 8, 9}) || get(c, 0, 3, 2) != (api.Rec{0, 0, 1, 0}) {
		t.Error(c.Files(0))
	}
	asks(0, api.Addr{Op: api.OpRead, File: 4}, api.Rec{1, 0, 165, 164}, api.OK)
	was := stateOf(c)
	asks(0, api.Addr{Op: api.OpRead, File: 4, Rec: 1}, api.Rec{}, api.ErrPerm)
	asks(0, api.Addr{Op: api.OpWrite, File: 3, Rec: 0}, api.Rec{}, api.ErrPerm)
	asks(0, api.Addr{Op: api.OpRead, File: 3, Rec: 3}, api.Rec{}, api.ErrRange)
	asks(0, api.Addr{Op: api.OpRead, File: 5, Rec: 1}, api.Rec{}, api.ErrNone)
	asks(0, api.Addr{Op: 3, File: 3, Rec: 1}, api.Rec{}, api.ErrArg)
	for _, n := range append(wild, 2, 3, 31, 32) {
		asks(n, api.Addr{Op: api.OpWrite, File: 3, Rec: 1}, api.Rec{}, api.ErrArg)
		asks(0, api.Addr{Op: api.OpRead, File: 64, Rec: n}, api.Rec{}, api.ErrArg)
	}
	do(t, c, api.Act{Kind: api.ActCrash}, api.OK)
	asks(0, api.Addr{Op: api.OpWrite, File: 3, Rec: 1}, api.Rec{}, api.ErrTime)
	asks(0, api.Addr{Op: 3, File: 64, Rec: 256}, api.Rec{}, api.ErrTime)
	do(t, c, api.Act{Kind: api.ActRestart}, api.OK)
	was.role[0] = api.Listen
	if !was.same(stateOf(c)) {
		t.Error("what was refused has changed something")
	}
}

// R4: plans are not changed and not kept, and what is answered is no part of the cluster.
func TestMemory(t *testing.T) {
	list := make([]api.Plan, 2, 5)
	for i := range list {
		f := master(t, api.Rec{17}, []api.Entry{send(1, 1, 0), recv(1, 2, 0)}[i])
		list[i] = plan(0, f)
		list[i].Files = append(make([]api.Named, 0, 9), list[i].Files...)
		for j, x := range list[i].Files {
			list[i].Files[j].File.Recs = append(make([]api.Rec, 0, 30), x.File.Recs...)
		}
	}
	c, e := New(list)
	ok(t, e)
	was := stateOf(c)
	rounds(t, c, 1)
	do(t, c, write(0, 1, api.Rec{18}), api.OK)
	for i, p := range list[:5] {
		if i >= 2 && (p.Files != nil || p.Rate != 0) || i < 2 && !alike(p.Files, was.files[i]) {
			t.Errorf("plan %d is %v", i, p)
		}
		for _, x := range p.Files[:cap(p.Files)] {
			for _, v := range x.File.Recs[len(x.File.Recs):cap(x.File.Recs)] {
				if v != (api.Rec{}) {
					t.Errorf("behind the records of plan %d is %v", i, v)
				}
			}
		}
	}
	now := stateOf(c)
	trample(list[0].Files)
	trample(list[1].Files)
	for n := range 2 {
		trample(c.Files(n))
	}
	if !now.same(stateOf(c)) {
		t.Error("the cluster has changed with what it was handed, or has answered")
	}
	rounds(t, c, 2)
	has(t, c, 1, 2, api.Rec{18})
}

// trample: changes all of a list, spare room included.
func trample(list []api.Named) {
	for _, x := range list {
		for i := range x.File.Recs[:cap(x.File.Recs)] {
			x.File.Recs[:cap(x.File.Recs)][i] = api.Rec{1, 2, 3, 4}
		}
	}
	clear(list[:cap(list)])
}

// R5: clusters of one plan are no part of one another, and one plan may be of several nodes.
func TestApart(t *testing.T) {
	p := plan(0, map[int]api.File{1: recs(t, 7, api.Rec{1}), 40: order(t, 0, 1)})
	a, e := New([]api.Plan{p, p, p})
	ok(t, e)
	b, e := New([]api.Plan{p, p, p})
	ok(t, e)
	was := stateOf(b)
	do(t, a, write(1, 1, api.Rec{2}), api.OK)
	rounds(t, a, 1)
	do(t, a, api.Act{Kind: api.ActCrash}, api.OK)
	has(t, a, 0, 1, api.Rec{1})
	has(t, a, 1, 1, api.Rec{2})
	has(t, a, 2, 1, api.Rec{1})
	if !was.same(stateOf(b)) {
		t.Error("the other cluster has changed")
	}
}

// words is a cluster by the document's words: all at once, whatever the oscillators are.
type words struct {
	files  []map[int]api.File
	live   []bool
	pair   *watch.Pair
	place  int
	spoils []api.Spoil
}

func wordsOf(list []api.Plan) *words {
	w := &words{pair: watch.New()}
	for _, p := range list {
		files := map[int]api.File{}
		for _, f := range p.Files {
			files[f.N] = api.File{Perm: f.File.Perm, Recs: slices.Clone(f.File.Recs)}
		}
		w.files, w.live = append(w.files, files), append(w.live, true)
	}
	return w
}

func (w *words) state() state {
	s := state{live: w.live, place: w.place}
	for n, files := range w.files {
		s.files, s.role = append(s.files, named(files)), append(s.role, w.pair.Role(n))
	}
	return s
}

func (w *words) Do(x api.Act) api.Errno {
	switch {
	case x.Kind == api.ActRound:
		e := w.round()
		w.spoils = nil
		return e
	case x.Kind == api.ActSpoil && len(w.spoils) == 32:
		return api.ErrFull
	case x.Kind == api.ActSpoil:
		w.spoils = append(w.spoils, api.Spoil{Slot: x.Slot, Mask: x.Mask})
		return api.OK
	case x.Kind < 1 || x.Kind > 6 || x.Node < 0 || x.Node >= len(w.live):
		return api.ErrArg
	case x.Kind == api.ActDrift:
		if x.Rate < -2000 || x.Rate > 2000 {
			return api.ErrArg
		}
		return api.OK
	case w.live[x.Node] != (x.Kind != api.ActRestart):
		return api.ErrState
	case x.Kind == api.ActWrite:
		list := w.files[x.Node][x.File].Recs
		if x.Rec < 1 || x.Rec >= len(list) {
			return api.ErrNone
		}
		list[x.Rec] = x.Val
		return api.OK
	}
	w.live[x.Node] = x.Kind == api.ActRestart
	if w.live[x.Node] {
		w.pair.Restart(x.Node)
	} else {
		w.pair.Crash(x.Node)
	}
	return api.OK
}

func (w *words) round() api.Errno {
	n := w.pair.Round()
	if n < 0 {
		return api.OK
	}
	list, e := rose.Sequence(w.files[n][40])
	if e != api.OK {
		return api.ErrForm
	}
	round := list[w.place]
	w.place = (w.place + 1) % len(list)
	var tables [][]api.Entry
	for _, files := range w.files {
		x, e := rodl.Table(files[32+round])
		if e != api.OK {
			x = nil
		}
		tables = append(tables, x)
	}
	heard, e := w.heard(tables)
	if e != api.OK {
		return e
	}
	for n, x := range tables {
		if w.live[n] {
			w.receive(n, x, heard)
		}
	}
	return api.OK
}

// heard: what is heard in each slot; or how the tables don't fit.
func (w *words) heard(tables [][]api.Entry) (map[int]byte, api.Errno) {
	sent, out := map[int]bool{}, map[int]byte{}
	for n, list := range tables {
		for _, x := range list {
			if x.Kind != api.Send {
				continue
			}
			if sent[x.Slot] {
				return nil, api.ErrClash
			}
			sent[x.Slot] = true
			turned := 0
			for _, y := range w.spoils {
				if y.Slot == x.Slot {
					turned ^= y.Mask & (1<<11 - 2)
				}
			}
			whole := turned>>10 == 0 && bits.OnesCount(uint(turned))%2 == 0
			if recs := w.files[n][x.File].Recs; whole && w.live[n] && x.Rec < len(recs) {
				out[x.Slot] = recs[x.Rec][x.Byte] ^ byte(turned>>1)
			}
		}
	}
	for _, list := range tables {
		for _, x := range list {
			if x.Kind == api.Recv && !sent[x.Slot] {
				return nil, api.ErrGap
			}
		}
	}
	return out, api.OK
}

// receive: a node's files behind the round.
func (w *words) receive(n int, list []api.Entry, heard map[int]byte) {
	whole := func(y api.Entry) bool {
		return !slices.ContainsFunc(list, func(x api.Entry) bool {
			_, there := heard[x.Slot]
			return x.Kind == api.Recv && x.File == y.File && x.Rec == y.Rec && !there
		})
	}
	for _, x := range list {
		if recs := w.files[n][x.File].Recs; x.Kind == api.Recv && x.Rec < len(recs) && whole(x) {
			recs[x.Rec][x.Byte] = heard[x.Slot]
		}
	}
	for _, x := range list {
		if x.Kind == api.Exec {
			w.Serve(n, api.Addr{Op: api.OpExec, File: x.File, Rec: x.Rec}, api.Rec{})
		}
	}
}

func (w *words) Serve(n int, a api.Addr, v api.Rec) (api.Rec, api.Errno) {
	switch {
	case n < 0 || n >= len(w.live):
		return api.Rec{}, api.ErrArg
	case !w.live[n]:
		return api.Rec{}, api.ErrTime
	case a.Op < 0 || a.Op > 2 || a.File < 0 || a.File > 63 || a.Rec < 0 || a.Rec > 255:
		return api.Rec{}, api.ErrArg
	}
	f, there := w.files[n][a.File]
	if !there {
		return api.Rec{}, api.ErrNone
	}
	then, v, e := file.Do(f, a.Op, a.Rec, v)
	if e == api.OK {
		w.files[n][a.File] = then
	}
	return v, e
}

// pick: a number up to the last one, and sometimes one beyond.
func pick(random *rand.Rand, first, last int) int {
	if random.Intn(60) == 0 {
		return wild[random.Intn(len(wild))]
	}
	return first + random.Intn(last-first+1)
}

// rec: four bytes, most of which are low.
func rec(random *rand.Rand) api.Rec {
	v := api.Rec{}
	for i := range v {
		if random.Intn(2) == 0 {
			v[i] = byte(random.Intn(256))
		}
	}
	return v
}

// tabled: tables of a round that fit, but for some of them.
func tabled(t *testing.T, random *rand.Rand, n int) []api.File {
	lists := make([][]api.Entry, n)
	for slot := 1; slot <= 16; slot++ {
		sender := random.Intn(n+1) - 1
		for i := range lists {
			x := api.Entry{Slot: slot, File: 1 + random.Intn(2), Rec: 1 + random.Intn(5), Byte: random.Intn(4)}
			switch {
			case i == sender || random.Intn(1500) == 0:
				x.Kind = api.Send
			case (sender >= 0 || random.Intn(1000) == 0) && random.Intn(3) > 0:
				x.Kind = api.Recv
			case random.Intn(6) == 0:
				x.Kind, x.Byte = api.Exec, 0
			default:
				continue
			}
			lists[i] = append(lists[i], x)
		}
	}
	var out []api.File
	for _, list := range lists {
		out = append(out, table(t, list...))
	}
	return out
}

// plans: some nodes, with files of what comes to hand.
func plans(t *testing.T, random *rand.Rand) []api.Plan {
	n := 2 + random.Intn(4)
	if random.Intn(20) == 0 {
		n = 32
	}
	var list []int
	for range 1 + random.Intn(6) {
		list = append(list, random.Intn(6))
	}
	all := make([]map[int]api.File, n)
	for i := range all {
		all[i] = map[int]api.File{1: recs(t, random.Intn(8), rec(random), rec(random), rec(random), rec(random))}
		if random.Intn(4) > 0 {
			all[i][2] = recs(t, 4+random.Intn(4), rec(random), rec(random), rec(random), rec(random), rec(random))
		}
		if i < 2 || random.Intn(4) == 0 {
			all[i][40] = order(t, list...)
		}
	}
	for _, round := range list {
		for i, f := range tabled(t, random, n) {
			if random.Intn(12) > 0 || f.Recs[1][0]%64 == api.Send {
				all[i][32+round] = f
			}
		}
	}
	var out []api.Plan
	for _, files := range all {
		out = append(out, plan(2000-random.Intn(3)*2000, files))
	}
	return out
}

// act: something that may happen to so many nodes.
func act(random *rand.Rand, nodes int) api.Act {
	x := api.Act{
		Kind: []int{1, 1, 1, 1, 1, 1, 2, 2, 3, 3, 4, 5, 5, 6}[random.Intn(14)],
		Node: pick(random, 0, nodes-1),
		File: pick(random, 1, 2),
		Rec:  pick(random, 0, 5),
		Val:  rec(random),
		Slot: pick(random, 0, 17),
		Mask: 1 << random.Intn(13),
		Rate: pick(random, -2010, 2010),
	}
	switch random.Intn(40) {
	case 0:
		x.Kind = pick(random, -1, 8)
	case 1:
		x.Kind, x.File, x.Val = api.ActWrite, 32+random.Intn(6), api.Rec{byte(1 + random.Intn(4)), byte(random.Intn(17)), 1, byte(random.Intn(5))}
	case 2:
		x.Kind, x.Node, x.File, x.Val = api.ActWrite, random.Intn(2), 40, api.Rec{byte(random.Intn(7))}
	case 3:
		x.Mask = pick(random, 0, 1<<12)
	}
	return x
}

// P20.2, P20.3, P20.4: scripts, step by step as the document's words have it, which know of no oscillator.
func TestMany(t *testing.T) {
	answers := map[api.Errno]int{}
	for seed := range 300 {
		random := rand.New(rand.NewSource(int64(seed)))
		list := plans(t, random)
		c, e := New(list)
		ok(t, e)
		w := wordsOf(list)
		for i := range 120 {
			if random.Intn(12) == 0 {
				n, a, v := pick(random, 0, len(list)-1), api.Addr{Op: random.Intn(3), File: pick(random, 1, 3), Rec: pick(random, 0, 6)}, rec(random)
				got, e := c.Serve(n, a, v)
				if want, err := w.Serve(n, a, v); got != want || e != err {
					t.Fatalf("seed %d: Serve of %d, %v is %v and %v, not %v and %v", seed, n, a, got, e, want, err)
				}
			}
			x := act(random, len(list))
			e, want := c.Do(x), w.Do(x)
			if e != want {
				t.Fatalf("seed %d, act %d: %+v is %v, not %v", seed, i, x, e, want)
			}
			if x.Kind == api.ActRound {
				answers[e]++
			}
			if !stateOf(c).same(w.state()) {
				t.Fatalf("seed %d, act %d: behind %+v all is %+v, not %+v", seed, i, x, stateOf(c), w.state())
			}
		}
	}
	for _, e := range []api.Errno{api.OK, api.ErrForm, api.ErrClash, api.ErrGap} {
		if answers[e] < 100 {
			t.Errorf("only %d rounds are %v", answers[e], e)
		}
	}
}

// P20.4: one script of all nodes, whose oscillators are as far off as they may, all ways: what the nodes have is the same.
func TestRates(t *testing.T) {
	random := rand.New(rand.NewSource(1))
	list := plans(t, random)
	for len(list) != 4 {
		list = plans(t, random)
	}
	var acts []api.Act
	for len(acts) < 60 {
		if x := act(random, 4); x.Kind != api.ActDrift {
			acts = append(acts, x)
		}
	}
	w := wordsOf(list)
	for _, x := range acts {
		w.Do(x)
	}
	rates := []int{-2000, 0, 2000}
	for way := range 81 {
		for i := range list {
			list[i].Rate = rates[way%3]
			way /= 3
		}
		c, e := New(list)
		ok(t, e)
		for i, x := range acts {
			c.Do(x)
			do(t, c, api.Act{Kind: api.ActDrift, Node: i % 4, Rate: rates[i/4%3]}, api.OK)
		}
		if !stateOf(c).same(w.state()) {
			t.Fatalf("with rates of %d all is %+v, not %+v", way, stateOf(c), w.state())
		}
	}
}
