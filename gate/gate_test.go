package gate

import (
	"bytes"
	"errors"
	"math"
	"math/rand"
	"slices"
	"strings"
	"testing"

	"hayward/api"
	"hayward/cluster"
	"hayward/file"
	"hayward/req"
	"hayward/rodl"
	"hayward/rose"
)

// wild: numbers that are no key; some of them would be one, if they were cut to a byte or to 32 bits.
var wild = []int{math.MinInt, math.MinInt + 1, -1 << 32, -1<<32 + 7, -1 << 16, -256, -249, -255, -1, 256, 257, 263, 1 << 16, 1 << 32, 1<<32 + 7, math.MaxInt - 1, math.MaxInt}

// lock: the key of the gates here, and 0, which is another one.
const lock = 7

// The bytes of a reply by the document's words.
func told(id int, e api.Errno, v api.Rec) []byte {
	return []byte{0, 7, byte(id >> 8), byte(id), byte(e), v[0], v[1], v[2], v[3]}
}

// ok: without an error.
func ok(t *testing.T, e api.Errno) {
	t.Helper()
	if e != api.OK {
		t.Fatal(e)
	}
}

// recs: a file of those records, behind a header.
func recs(t *testing.T, perm int, list ...api.Rec) api.File {
	t.Helper()
	f, e := file.New(perm, len(list))
	ok(t, e)
	copy(f.Recs[1:], list)
	return f
}

// plan: a node with some files, a table of round 0, and the sequence.
func plan(t *testing.T, rate int, sequence []int, list ...api.Entry) api.Plan {
	t.Helper()
	table, e := rodl.File(list)
	ok(t, e)
	order, e := rose.File(sequence)
	ok(t, e)
	return api.Plan{Rate: rate, Files: []api.Named{
		{N: 1, File: recs(t, 7, api.Rec{1, 2, 3, 4}, api.Rec{})},
		{N: 2, File: recs(t, 1, api.Rec{21})},
		{N: 3, File: recs(t, 6, api.Rec{31})},
		{N: 32, File: table},
		{N: 40, File: order},
	}}
}

// field: three nodes, whose oscillators are as far off as they may; in each round 0 byte 0 of node 0's record 1 goes to record 2 of the others.
func field(t *testing.T, sequence ...int) *cluster.Cluster {
	t.Helper()
	in := api.Entry{Kind: api.Recv, Slot: 1, File: 1, Rec: 2}
	c, e := cluster.New([]api.Plan{
		plan(t, 2000, sequence, api.Entry{Kind: api.Send, Slot: 1, File: 1, Rec: 1}),
		plan(t, -2000, sequence, in),
		plan(t, 0, sequence, in, api.Entry{Kind: api.Exec, Slot: 9, File: 1, Rec: 1}),
	})
	ok(t, e)
	return c
}

// made: a gate of a cluster.
func made(t *testing.T, c *cluster.Cluster) *Gate {
	t.Helper()
	g, e := New(c, lock)
	ok(t, e)
	return g
}

// both: a cluster of rounds 0, 3 and 0, and a gate of it.
func both(t *testing.T) (*cluster.Cluster, *Gate) {
	t.Helper()
	c := field(t, 0, 3, 0)
	return c, made(t, c)
}

// do: something happens to the cluster beside the gate.
func do(t *testing.T, c *cluster.Cluster, x api.Act) {
	t.Helper()
	if e := c.Do(x); e != api.OK {
		t.Fatalf("Do of %+v is %v", x, e)
	}
}

func crash(t *testing.T, c *cluster.Cluster, n int) {
	t.Helper()
	do(t, c, api.Act{Kind: api.ActCrash, Node: n})
}

func restart(t *testing.T, c *cluster.Cluster, n int) {
	t.Helper()
	do(t, c, api.Act{Kind: api.ActRestart, Node: n})
}

func round(t *testing.T, c *cluster.Cluster) {
	t.Helper()
	do(t, c, api.Act{Kind: api.ActRound})
}

// get: a node's record of file 1.
func get(c *cluster.Cluster, n, rec int) api.Rec { return c.Files(n)[0].File.Recs[rec] }

// has: a node's record of file 1 is that.
func has(t *testing.T, c *cluster.Cluster, n, rec int, want api.Rec) {
	t.Helper()
	if v := get(c, n, rec); v != want {
		t.Fatalf("record %d of node %d is %v, not %v", rec, n, v, want)
	}
}

// same: is all alike that can be asked of two clusters?
func same(c, d *cluster.Cluster) bool {
	if c.Nodes() != d.Nodes() || c.Place() != d.Place() {
		return false
	}
	for n := range c.Nodes() {
		alike := slices.EqualFunc(c.Files(n), d.Files(n), func(x, y api.Named) bool { return x.N == y.N && file.Same(x.File, y.File) })
		if !alike || c.Live(n) != d.Live(n) || c.Role(n) != d.Role(n) {
			return false
		}
	}
	return true
}

// put: a request's bytes.
func put(t *testing.T, x api.Request) []byte {
	t.Helper()
	b, e := req.Put(x)
	if e != api.OK {
		t.Fatalf("Put of %+v is %v", x, e)
	}
	return b
}

// Requests for records of file 1, with the key where that is asked for.
func read(id, n, rec int) api.Request {
	return api.Request{ID: id, Kind: api.ReqRead, Node: n, File: 1, Rec: rec}
}

func write(id, n, rec int, v api.Rec) api.Request {
	return api.Request{ID: id, Kind: api.ReqWrite, Node: n, File: 1, Rec: rec, Val: v, Key: lock}
}

func exec(id, n, rec int) api.Request {
	return api.Request{ID: id, Kind: api.ReqExec, Node: n, File: 1, Rec: rec, Key: lock}
}

func state(id, n int) api.Request {
	return api.Request{ID: id, Kind: api.ReqState, Node: n}
}

// submit: those wait.
func submit(t *testing.T, g *Gate, list ...api.Request) {
	t.Helper()
	for _, x := range list {
		n := g.Waits()
		if b := g.Submit(put(t, x)); len(b) != 0 || g.Waits() != n+1 {
			t.Fatalf("Submit of %+v is %v, and %d wait where %d did", x, b, g.Waits(), n)
		}
	}
}

// refusedBytes: those are refused, and don't wait.
func refusedBytes(t *testing.T, g *Gate, b []byte, id int, want api.Errno) {
	t.Helper()
	n := g.Waits()
	if r := g.Submit(b); !bytes.Equal(r, told(id, want, api.Rec{})) || g.Waits() != n {
		t.Fatalf("Submit of %v is %v, not ID %d and %v, and %d wait where %d did", b, r, id, want, g.Waits(), n)
	}
}

// refuses: that is refused.
func refuses(t *testing.T, g *Gate, x api.Request, want api.Errno) {
	t.Helper()
	refusedBytes(t, g, put(t, x), x.ID, want)
}

// step: the reply is that.
func step(t *testing.T, g *Gate, id int, e api.Errno, v api.Rec) {
	t.Helper()
	n := g.Waits()
	if b := g.Step(); !bytes.Equal(b, told(id, e, v)) || g.Waits() != n-1 {
		t.Fatalf("Step is %v, not ID %d, %v and %v, and %d wait where %d did", b, id, e, v, g.Waits(), n)
	}
}

// silent: there is no reply, and who waits does so still.
func silent(t *testing.T, g *Gate, times int) {
	t.Helper()
	for range times {
		n := g.Waits()
		if b := g.Step(); len(b) != 0 || g.Waits() != n {
			t.Fatalf("Step is %v, and %d wait where %d did", b, g.Waits(), n)
		}
	}
}

// P23.1: which keys may be, of which cluster, and how many wait at first.
func TestNew(t *testing.T) {
	c := field(t, 0)
	for key := range 256 {
		g, e := New(c, key)
		if g == nil || e != api.OK || g.Waits() != 0 {
			t.Fatalf("New of %d is %v and %v", key, g, e)
		}
		if g, e := New(nil, key); g != nil || e != api.ErrArg {
			t.Fatalf("New of no cluster and %d is %v and %v", key, g, e)
		}
	}
	for _, key := range wild {
		for _, c := range []*cluster.Cluster{c, nil} {
			if g, e := New(c, key); g != nil || e != api.ErrArg {
				t.Errorf("New of %d is %v and %v", key, g, e)
			}
		}
	}
	if !same(c, field(t, 0)) {
		t.Error("New has changed something")
	}
}

// P23.1: Waits counts who waits, up to eight, and down again.
func TestWaits(t *testing.T) {
	_, g := both(t)
	for range 3 {
		for n := range 8 {
			if g.Waits() != n {
				t.Fatalf("%d wait, not %d", g.Waits(), n)
			}
			submit(t, g, read(n, n%3, 1))
		}
		for n := range 8 {
			if g.Waits() != 8-n {
				t.Fatalf("%d wait, not %d", g.Waits(), 8-n)
			}
			if len(g.Step()) == 0 {
				t.Fatal("there is no reply")
			}
		}
	}
}

// All calls of a nil Gate; one that New has not made doesn't panic, and has no node.
func TestNil(t *testing.T) {
	for _, b := range [][]byte{nil, {}, {1, 2, 3}, put(t, read(9, 0, 1)), put(t, write(9, 0, 1, api.Rec{1}))} {
		var none *Gate
		if r := none.Submit(b); len(r) != 0 {
			t.Errorf("Submit of %v is %v", b, r)
		}
		if r := none.Step(); len(r) != 0 || none.Waits() != 0 {
			t.Errorf("Step is %v, and %d wait", r, none.Waits())
		}
		empty := &Gate{}
		if r := empty.Submit(b); len(r) != 9 {
			t.Errorf("Submit of %v is %v", b, r)
		}
		if r := empty.Step(); len(r) != 0 || empty.Waits() != 0 {
			t.Errorf("Step is %v, and %d wait", r, empty.Waits())
		}
	}
}

// A cluster that cluster.New has not made has no node; it is not nil.
func TestEmptyCluster(t *testing.T) {
	g := made(t, &cluster.Cluster{})
	for n := range 32 {
		refuses(t, g, read(n, n, 1), api.ErrArg)
		refuses(t, g, state(n, n), api.ErrArg)
		silent(t, g, 1)
	}
}

// P23.2: bytes that are no request's are told by ErrForm with ID 0, whatever ID may be seen in them; even if eight wait.
func TestForm(t *testing.T) {
	c, g := both(t)
	good := [][]byte{put(t, read(0x1234, 0, 1)), put(t, write(0x1234, 0, 1, api.Rec{9, 9, 9, 9})), put(t, exec(0x1234, 0, 1)), put(t, state(0x1234, 0))}
	bad := [][]byte{nil, {}, {0}, {0, 0}, bytes.Repeat([]byte{255}, 300), make([]byte, 1<<17)}
	for _, b := range good {
		for n := range b {
			bad = append(bad, b[:n])
		}
		bad = append(bad, slices.Concat(b, []byte{0}), slices.Concat(b, b), slices.Concat([]byte{0}, b))
		for place, values := range map[int][]byte{0: {1, 255}, 1: {0, 6, 8, 10, 12, 255}, 4: {0, 5, 255}, 5: {32, 255}, 6: {64, 255}} {
			for _, v := range values {
				if other := slices.Clone(b); b[place] != v {
					other[place] = v
					bad = append(bad, other)
				}
			}
		}
	}
	someRecord := put(t, state(5, 0))
	someRecord[7] = 1
	bad = append(bad, someRecord)
	for _, b := range bad {
		refusedBytes(t, g, b, 0, api.ErrForm)
	}
	for n := range 8 {
		submit(t, g, read(n, 0, 1))
	}
	for _, b := range bad {
		refusedBytes(t, g, b, 0, api.ErrForm)
	}
	if !same(c, field(t, 0, 3, 0)) {
		t.Error("something has changed")
	}
}

// P23.2: a Node that there is not is told by ErrArg, of every kind, whatever the key is.
func TestNodes(t *testing.T) {
	for n := 2; n <= 32; n++ {
		p := plan(t, 0, []int{0})
		c, e := cluster.New(slices.Repeat([]api.Plan{p}, n))
		ok(t, e)
		g := made(t, c)
		for node := range 32 {
			for i, x := range []api.Request{read(65535, node, 1), write(0, node, 1, api.Rec{1}), exec(258, node, 1), state(1, node)} {
				if node < n {
					submit(t, g, x)
					if b := g.Step(); len(b) != 9 || b[4] != 0 {
						t.Fatalf("kind %d of node %d of %d: %v", i+1, node, n, b)
					}
					continue
				}
				refuses(t, g, x, api.ErrArg)
				x.Key = 99
				refuses(t, g, x, api.ErrArg)
			}
		}
	}
}

// P23.2: to write and to execute takes the key, whichever that is; to read and to ask for a state takes none.
func TestKeys(t *testing.T) {
	c := field(t, 0)
	for _, key := range []int{0, 1, 7, 128, 255} {
		g, e := New(c, key)
		ok(t, e)
		for k := range 256 {
			for i, x := range []api.Request{read(k, 1, 1), write(k, 1, 1, api.Rec{1}), exec(k, 1, 1), state(k, 1)} {
				x.Key = k
				if k == key || i == 0 || i == 3 {
					submit(t, g, x)
					g.Step()
					continue
				}
				refuses(t, g, x, api.ErrDenied)
			}
		}
	}
}

// P23.2: to write what a file lets nobody write is not refused, but answered; the key counts, whatever the file permits.
func TestKeyAndPermission(t *testing.T) {
	_, g := both(t)
	x := write(5, 1, 1, api.Rec{1})
	x.File = 2
	submit(t, g, x)
	step(t, g, 5, api.ErrPerm, api.Rec{})
	x.Key = lock + 1
	refuses(t, g, x, api.ErrDenied)
	x.File, x.Rec = 60, 200
	refuses(t, g, x, api.ErrDenied)
	x = exec(6, 1, 1)
	x.Key = 0
	refuses(t, g, x, api.ErrDenied)
}

// P23.2: the ninth one is told by ErrBusy, of every kind; behind a Step one more waits.
func TestBusy(t *testing.T) {
	c, g := both(t)
	for n := range 8 {
		submit(t, g, read(n, 0, 1))
	}
	list := []api.Request{read(1000, 1, 1), write(1001, 1, 1, api.Rec{9}), exec(1002, 1, 1), state(1003, 1)}
	for _, x := range list {
		refuses(t, g, x, api.ErrBusy)
	}
	if !same(c, field(t, 0, 3, 0)) {
		t.Error("something has changed")
	}
	for n, x := range list {
		step(t, g, n, api.OK, api.Rec{1, 2, 3, 4})
		submit(t, g, x)
		refuses(t, g, x, api.ErrBusy)
	}
}

// P23.2: of several errors the one that is named first.
func TestFirstError(t *testing.T) {
	for full := range 2 {
		_, g := both(t)
		for n := range 8 * full {
			submit(t, g, read(n, 0, 1))
		}
		for kind := api.ReqRead; kind <= api.ReqState; kind++ {
			for _, node := range []int{2, 3, 31} {
				for _, key := range []int{lock, lock + 1} {
					x := api.Request{ID: 77, Kind: kind, Node: node, Key: key}
					torn := put(t, x)
					torn[0]++
					refusedBytes(t, g, torn, 0, api.ErrForm)
					want := api.OK
					switch {
					case node > 2:
						want = api.ErrArg
					case key != lock && (kind == api.ReqWrite || kind == api.ReqExec):
						want = api.ErrDenied
					case full == 1:
						want = api.ErrBusy
					}
					if want != api.OK {
						refuses(t, g, x, want)
						continue
					}
					submit(t, g, x)
					g.Step()
				}
			}
		}
	}
}

// P23.2: a refusal names the request's ID, whatever that is.
func TestIDs(t *testing.T) {
	c, g := both(t)
	crash(t, c, 2)
	for _, id := range []int{0, 1, 255, 256, 257, 0x1234, 0xff00, 65534, 65535} {
		refuses(t, g, read(id, 3, 1), api.ErrArg)
		x := write(id, 1, 1, api.Rec{})
		x.Key = 1
		refuses(t, g, x, api.ErrDenied)
		submit(t, g, read(id, 0, 1), read(id, 0, 3), state(id, 2), read(id, 2, 1))
		step(t, g, id, api.OK, api.Rec{1, 2, 3, 4})
		step(t, g, id, api.ErrRange, api.Rec{})
		step(t, g, id, api.OK, api.Rec{0, 0, byte(c.Place())})
		silent(t, g, 2)
		step(t, g, id, api.ErrTime, api.Rec{})
	}
}

// P23.2: two requests of one ID both wait; they are two.
func TestSameID(t *testing.T) {
	_, g := both(t)
	submit(t, g, exec(5, 1, 1), exec(5, 1, 1), read(5, 1, 1))
	step(t, g, 5, api.OK, api.Rec{1, 2, 3, 5})
	step(t, g, 5, api.OK, api.Rec{1, 2, 3, 6})
	step(t, g, 5, api.OK, api.Rec{1, 2, 3, 6})
	silent(t, g, 1)
}

// P23.2: nothing is done when a request comes, but at the next boundary.
func TestSubmitWaits(t *testing.T) {
	c, g := both(t)
	submit(t, g, write(1, 0, 1, api.Rec{9}), exec(2, 1, 1), state(3, 0))
	if !same(c, field(t, 0, 3, 0)) {
		t.Error("something has changed")
	}
	step(t, g, 1, api.OK, api.Rec{9})
	has(t, c, 1, 1, api.Rec{1, 2, 3, 4})
	step(t, g, 2, api.OK, api.Rec{1, 2, 3, 5})
	has(t, c, 1, 1, api.Rec{1, 2, 3, 5})
}

// R4: what is handed in is neither changed nor kept, and what is answered is new memory.
func TestMemory(t *testing.T) {
	c, g := both(t)
	room := append(put(t, write(9, 1, 1, api.Rec{5, 6, 7, 8})), 1, 2, 3)
	b := room[:len(room)-3]
	was := slices.Clone(room)
	if r := g.Submit(b); len(r) != 0 || !bytes.Equal(room, was) {
		t.Fatalf("Submit is %v, and the bytes are %v", r, room)
	}
	clear(room)
	step(t, g, 9, api.OK, api.Rec{5, 6, 7, 8})
	has(t, c, 1, 1, api.Rec{5, 6, 7, 8})
	clear(was[:2])
	one, other := g.Submit(was), g.Submit(was)
	if !slices.Equal(was[:2], []byte{0, 0}) {
		t.Error("a wrong request was changed")
	}
	submit(t, g, read(1, 1, 1), read(1, 1, 1))
	third, fourth := g.Step(), g.Step()
	for _, p := range [][2][]byte{{one, other}, {third, fourth}} {
		kept := slices.Clone(p[1])
		whole := p[0][:cap(p[0])]
		for i := range whole {
			whole[i] = 99
		}
		if !bytes.Equal(p[1], kept) {
			t.Error("two answers share memory")
		}
	}
	submit(t, g, read(2, 1, 1))
	step(t, g, 2, api.OK, api.Rec{5, 6, 7, 8})
}

// P23.3: what each kind comes to: Serve's record, or its error.
func TestServe(t *testing.T) {
	of := func(x api.Request, number int) api.Request {
		x.File = number
		return x
	}
	v := api.Rec{250, 251, 252, 253}
	for _, x := range []struct {
		x   api.Request
		e   api.Errno
		val api.Rec
	}{
		{read(1, 1, 1), api.OK, api.Rec{1, 2, 3, 4}},
		{read(2, 1, 0), api.OK, api.Rec{2, 7, 165, 2 ^ 7 ^ 165}},
		{read(3, 1, 3), api.ErrRange, api.Rec{}},
		{read(4, 1, 255), api.ErrRange, api.Rec{}},
		{of(read(5, 1, 1), 0), api.ErrNone, api.Rec{}},
		{of(read(6, 1, 1), 63), api.ErrNone, api.Rec{}},
		{of(read(7, 1, 1), 2), api.OK, api.Rec{21}},
		{of(read(8, 1, 1), 3), api.ErrPerm, api.Rec{}},
		{of(read(9, 1, 0), 3), api.OK, api.Rec{1, 6, 165, 1 ^ 6 ^ 165}},
		{write(10, 1, 1, v), api.OK, v},
		{write(11, 1, 1, api.Rec{}), api.OK, api.Rec{}},
		{write(12, 1, 0, v), api.ErrPerm, api.Rec{}},
		{write(13, 1, 3, v), api.ErrRange, api.Rec{}},
		{of(write(14, 1, 1, v), 2), api.ErrPerm, api.Rec{}},
		{of(write(15, 1, 1, v), 3), api.OK, v},
		{of(write(16, 1, 1, v), 4), api.ErrNone, api.Rec{}},
		{exec(17, 1, 1), api.OK, api.Rec{1, 2, 3, 5}},
		{exec(18, 1, 2), api.OK, api.Rec{0, 0, 0, 1}},
		{exec(19, 1, 0), api.ErrPerm, api.Rec{}},
		{exec(20, 1, 3), api.ErrRange, api.Rec{}},
		{of(exec(21, 1, 1), 2), api.ErrPerm, api.Rec{}},
		{of(exec(22, 1, 1), 3), api.OK, api.Rec{31, 0, 0, 1}},
		{of(exec(23, 1, 1), 62), api.ErrNone, api.Rec{}},
	} {
		c := field(t, 5)
		g := made(t, c)
		submit(t, g, x.x)
		step(t, g, x.x.ID, x.e, x.val)
		d := field(t, 5)
		if x.e == api.OK && x.x.Kind != api.ReqRead {
			do(t, d, api.Act{Kind: api.ActWrite, Node: 1, File: x.x.File, Rec: x.x.Rec, Val: x.val})
		}
		round(t, d)
		if !same(c, d) {
			t.Errorf("behind %+v the cluster is not what it should be", x.x)
		}
		silent(t, g, 4)
	}
}

// P23.3: a state is whether the node is live, its role, and the place; then 0.
func TestState(t *testing.T) {
	c, g := both(t)
	ask := func(n int, v api.Rec) {
		t.Helper()
		submit(t, g, state(40+n, n))
		step(t, g, 40+n, api.OK, v)
	}
	ask(0, api.Rec{1, api.Active, 0})
	ask(1, api.Rec{1, api.Shadow, 1})
	ask(2, api.Rec{1, 0, 2})
	crash(t, c, 2)
	ask(2, api.Rec{0, 0, 0})
	crash(t, c, 0)
	// Who is down is told to be so at once: no node has to answer that itself.
	ask(0, api.Rec{0, api.Down, 1})
	ask(1, api.Rec{1, api.Shadow, 1})
	restart(t, c, 2)
	ask(2, api.Rec{1, 0, 1})
	restart(t, c, 0)
	ask(0, api.Rec{1, api.Listen, 1})
	// The fifth round is opened by node 1: what is told is what was ahead of it.
	ask(1, api.Rec{1, api.Shadow, 1})
	ask(1, api.Rec{1, api.Active, 2})
	ask(0, api.Rec{1, api.Shadow, 0})
}

// P23.3: the place is told as far as a sequence goes.
func TestFarPlace(t *testing.T) {
	g := made(t, field(t, make([]int, 64)...))
	for i := range 130 {
		submit(t, g, state(i, 2))
		step(t, g, i, api.OK, api.Rec{1, 0, byte(i % 64)})
	}
}

// P23.3: a state asks no node, so it is told at the first try, while others have to be tried again.
func TestStateOfDown(t *testing.T) {
	c, g := both(t)
	crash(t, c, 2)
	submit(t, g, read(1, 2, 1), state(2, 2), read(3, 2, 1), state(4, 2))
	silent(t, g, 2)
	step(t, g, 1, api.ErrTime, api.Rec{})
	step(t, g, 2, api.OK, api.Rec{0, 0, 0})
	silent(t, g, 2)
	step(t, g, 3, api.ErrTime, api.Rec{})
	step(t, g, 4, api.OK, api.Rec{0, 0, 1})
}

// P23.3, and the example: of a node that is down each request is tried three times, the ones behind it wait.
func TestDown(t *testing.T) {
	for _, x := range []api.Request{read(5, 2, 1), write(5, 2, 1, api.Rec{9}), exec(5, 2, 1), {ID: 5, Kind: api.ReqRead, Node: 2, File: 60}} {
		c, g := both(t)
		d := field(t, 0, 3, 0)
		crash(t, c, 2)
		crash(t, d, 2)
		submit(t, g, x, read(6, 2, 1), read(7, 0, 1))
		silent(t, g, 2)
		step(t, g, 5, api.ErrTime, api.Rec{})
		silent(t, g, 2)
		step(t, g, 6, api.ErrTime, api.Rec{})
		step(t, g, 7, api.OK, api.Rec{1, 2, 3, 4})
		silent(t, g, 1)
		for range 8 {
			round(t, d)
		}
		if !same(c, d) {
			t.Errorf("behind %+v something has changed", x)
		}
	}
}

// P23.3: who is back at the second or third try answers then, and it is done once.
func TestBack(t *testing.T) {
	for tries := 1; tries <= 2; tries++ {
		c, g := both(t)
		crash(t, c, 1)
		submit(t, g, exec(5, 1, 1), exec(6, 1, 1), read(7, 1, 1))
		silent(t, g, tries)
		has(t, c, 1, 1, api.Rec{1, 2, 3, 4})
		restart(t, c, 1)
		step(t, g, 5, api.OK, api.Rec{1, 2, 3, 5})
		has(t, c, 1, 1, api.Rec{1, 2, 3, 5})
		// The next one has tries of its own.
		crash(t, c, 1)
		silent(t, g, 2)
		restart(t, c, 1)
		step(t, g, 6, api.OK, api.Rec{1, 2, 3, 6})
		crash(t, c, 1)
		silent(t, g, 2)
		step(t, g, 7, api.ErrTime, api.Rec{})
		has(t, c, 1, 1, api.Rec{1, 2, 3, 6})
	}
}

// P23.3: it is the node's own state at each boundary that counts, not what it was when the request came.
func TestDownLater(t *testing.T) {
	c, g := both(t)
	submit(t, g, read(1, 2, 1), read(2, 2, 1))
	crash(t, c, 2)
	silent(t, g, 2)
	step(t, g, 1, api.ErrTime, api.Rec{})
	silent(t, g, 1)
	restart(t, c, 2)
	step(t, g, 2, api.OK, get(c, 2, 1))
	crash(t, c, 2)
	submit(t, g, read(3, 2, 1))
	restart(t, c, 2)
	step(t, g, 3, api.OK, get(c, 2, 1))
}

// P23.3: the request is done ahead of the round, which carries what it wrote; what is read is what was ahead of it.
func TestBoundary(t *testing.T) {
	c, g := both(t)
	submit(t, g, write(1, 0, 1, api.Rec{77}))
	step(t, g, 1, api.OK, api.Rec{77})
	has(t, c, 1, 2, api.Rec{77})
	has(t, c, 2, 2, api.Rec{77})
	submit(t, g, read(2, 0, 1))
	step(t, g, 2, api.OK, api.Rec{77})
	do(t, c, api.Act{Kind: api.ActWrite, Node: 0, File: 1, Rec: 1, Val: api.Rec{88}})
	submit(t, g, read(3, 1, 2), read(4, 1, 2))
	step(t, g, 3, api.OK, api.Rec{77})
	has(t, c, 1, 2, api.Rec{88})
	step(t, g, 4, api.OK, api.Rec{88})
	// What node 2 itself executes in round 0 comes behind what was answered.
	silent(t, g, 1)
	submit(t, g, exec(5, 2, 1))
	was := get(c, 2, 1)
	was[3]++
	step(t, g, 5, api.OK, was)
	was[3]++
	has(t, c, 2, 1, was)
}

// P23.3: one round a Step, whatever becomes of the request, even if none waits.
func TestRoundInAnyCase(t *testing.T) {
	c, g := both(t)
	d := field(t, 0, 3, 0)
	behind := func(name string) {
		t.Helper()
		round(t, d)
		if !same(c, d) {
			t.Fatalf("%s: not one round went by", name)
		}
	}
	for range 4 {
		silent(t, g, 1)
		behind("none waits")
		submit(t, g, read(1, 1, 1))
		step(t, g, 1, api.OK, api.Rec{1, 2, 3, 4})
		behind("a record")
		submit(t, g, read(2, 1, 9))
		step(t, g, 2, api.ErrRange, api.Rec{})
		behind("an error")
		submit(t, g, state(3, 1))
		step(t, g, 3, api.OK, api.Rec{1, api.Shadow, byte(d.Place())})
		behind("a state")
		crash(t, c, 2)
		crash(t, d, 2)
		submit(t, g, read(4, 2, 1))
		for range 2 {
			silent(t, g, 1)
			behind("in vain")
		}
		step(t, g, 4, api.ErrTime, api.Rec{})
		behind("in vain for the third time")
		restart(t, c, 2)
		restart(t, d, 2)
		refuses(t, g, read(5, 9, 1), api.ErrArg)
		if !same(c, d) {
			t.Fatal("a refusal has changed something")
		}
	}
}

// P23.3: what a round answers is told to nobody: not that it fails, nor that nobody opens it.
func TestRoundErrors(t *testing.T) {
	c, g := both(t)
	none := api.Request{ID: 1, Kind: api.ReqWrite, File: 40, Rec: 1, Val: api.Rec{9}, Key: lock}
	submit(t, g, none, read(2, 0, 1), read(3, 0, 7), state(4, 0))
	step(t, g, 1, api.OK, api.Rec{9})
	step(t, g, 2, api.OK, api.Rec{1, 2, 3, 4})
	step(t, g, 3, api.ErrRange, api.Rec{})
	step(t, g, 4, api.OK, api.Rec{1, api.Active, 0})
	silent(t, g, 3)
	if e := c.Do(api.Act{Kind: api.ActRound}); e != api.ErrForm {
		t.Fatalf("a round is %v", e)
	}
	none.Val = api.Rec{0}
	clash := api.Request{ID: 6, Kind: api.ReqWrite, Node: 1, File: 32, Rec: 1, Val: api.Rec{1, 1, 1, 1}, Key: lock}
	submit(t, g, none, clash)
	step(t, g, 1, api.OK, api.Rec{})
	step(t, g, 6, api.OK, api.Rec{1, 1, 1, 1})
	silent(t, g, 1)
	submit(t, g, read(7, 1, 1))
	step(t, g, 7, api.OK, api.Rec{1, 2, 3, 4})
	crash(t, c, 0)
	submit(t, g, read(8, 1, 1), read(9, 0, 1))
	step(t, g, 8, api.OK, api.Rec{1, 2, 3, 4})
	silent(t, g, 2)
	step(t, g, 9, api.ErrTime, api.Rec{})
}

// P23.4: replies come in the order of the requests, one each, whatever comes between.
func TestOrder(t *testing.T) {
	c, g := both(t)
	crash(t, c, 2)
	submit(t, g, exec(30, 1, 2), read(20, 2, 1), read(10, 1, 2), write(5, 1, 2, api.Rec{5}), state(6, 1))
	step(t, g, 30, api.OK, api.Rec{0, 0, 0, 1})
	silent(t, g, 1)
	submit(t, g, read(1, 1, 2))
	silent(t, g, 1)
	step(t, g, 20, api.ErrTime, api.Rec{})
	step(t, g, 10, api.OK, api.Rec{1, 0, 0, 1})
	step(t, g, 5, api.OK, api.Rec{5})
	step(t, g, 6, api.OK, api.Rec{1, api.Shadow, 0})
	step(t, g, 1, api.OK, api.Rec{1})
	silent(t, g, 3)
}

// Two gates of one cluster have requests and keys of their own.
func TestTwoGates(t *testing.T) {
	c, g := both(t)
	h, e := New(c, 9)
	ok(t, e)
	x := write(2, 1, 1, api.Rec{6})
	refuses(t, h, x, api.ErrDenied)
	x.Key = 9
	refuses(t, g, x, api.ErrDenied)
	submit(t, g, exec(1, 1, 1))
	submit(t, h, x)
	if g.Waits() != 1 || h.Waits() != 1 {
		t.Fatalf("%d and %d wait", g.Waits(), h.Waits())
	}
	step(t, h, 2, api.OK, api.Rec{6})
	step(t, g, 1, api.OK, api.Rec{6, 0, 0, 1})
	if c.Place() != 2 {
		t.Errorf("the place is %d", c.Place())
	}
}

// Why a request comes to nothing is wrapped, and tells which one it is.
func TestRefusal(t *testing.T) {
	err := error(refusal{513, api.ErrDenied})
	var (
		why refusal
		e   api.Errno
	)
	if !errors.Is(err, api.ErrDenied) || errors.Is(err, api.ErrBusy) || !errors.As(err, &why) || why.id != 513 || !errors.As(err, &e) || e != api.ErrDenied {
		t.Error(err, why, e)
	}
	if s := err.Error(); !strings.Contains(s, "513") || !strings.Contains(s, api.ErrDenied.Error()) {
		t.Error(s)
	}
	_, g := both(t)
	for want, b := range map[api.Errno][]byte{api.ErrForm: {1}, api.ErrArg: put(t, read(9, 3, 1)), api.ErrDenied: put(t, api.Request{ID: 9, Kind: api.ReqExec})} {
		if err := g.take(b); !errors.Is(err, want) || !errors.As(err, &why) {
			t.Errorf("%v is %v", b, err)
		}
	}
	if err := g.take(put(t, read(9, 0, 1))); err != nil {
		t.Error(err)
	}
}

// words is a gate by the document's words.
type words struct {
	c     *cluster.Cluster
	list  []api.Request
	tries []int
}

func (w *words) submit(b []byte) []byte {
	x, e := req.Take(b)
	switch {
	case e != api.OK:
		return told(0, api.ErrForm, api.Rec{})
	case x.Node >= w.c.Nodes():
		return told(x.ID, api.ErrArg, api.Rec{})
	case (x.Kind == api.ReqWrite || x.Kind == api.ReqExec) && x.Key != lock:
		return told(x.ID, api.ErrDenied, api.Rec{})
	case len(w.list) == 8:
		return told(x.ID, api.ErrBusy, api.Rec{})
	}
	w.list, w.tries = append(w.list, x), append(w.tries, 0)
	return nil
}

func (w *words) step() []byte {
	b := w.reply()
	w.c.Do(api.Act{Kind: api.ActRound})
	return b
}

func (w *words) reply() []byte {
	if len(w.list) == 0 {
		return nil
	}
	x := w.list[0]
	v, e := api.Rec{0, byte(w.c.Role(x.Node)), byte(w.c.Place()), 0}, api.OK
	if w.c.Live(x.Node) {
		v[0] = 1
	}
	if x.Kind != api.ReqState {
		op := map[int]int{api.ReqRead: api.OpRead, api.ReqWrite: api.OpWrite, api.ReqExec: api.OpExec}[x.Kind]
		v, e = w.c.Serve(x.Node, api.Addr{Op: op, File: x.File, Rec: x.Rec}, x.Val)
	}
	if e == api.ErrTime {
		if w.tries[0]++; w.tries[0] < 3 {
			return nil
		}
	}
	w.list, w.tries = w.list[1:], w.tries[1:]
	return told(x.ID, e, v)
}

// anyRequest: bytes of a request, most of which may be.
func anyRequest(r *rand.Rand, id int) []byte {
	x := api.Request{ID: id, Kind: 1 + r.Intn(4), Node: r.Intn(3), File: 1 + r.Intn(4), Rec: r.Intn(4), Key: lock}
	switch r.Intn(12) {
	case 0:
		x.Key = r.Intn(256)
	case 1:
		x.Node = r.Intn(32)
	case 2:
		x.File = []int{32, 40}[r.Intn(2)]
	}
	if x.Kind == api.ReqWrite {
		x.Val = api.Rec{byte(r.Intn(6)), byte(r.Intn(3)), byte(r.Intn(2))}
	}
	if x.Kind == api.ReqState {
		x.File, x.Rec = 0, 0
	}
	b, _ := req.Put(x)
	if r.Intn(15) == 0 {
		b[r.Intn(len(b))] ^= 1 << r.Intn(8)
	}
	return b
}

// anyAct: something that happens to the cluster beside the gate.
func anyAct(r *rand.Rand) api.Act {
	return api.Act{
		Kind: []int{api.ActCrash, api.ActRestart, api.ActRestart, api.ActSpoil, api.ActDrift, api.ActWrite, api.ActRound}[r.Intn(7)],
		Node: r.Intn(3), File: 1, Rec: 1 + r.Intn(2), Val: api.Rec{byte(r.Intn(256))},
		Slot: 1, Mask: 1 << r.Intn(11), Rate: r.Intn(4001) - 2000,
	}
}

// P23.2, P23.3: long scripts answer what the document's words come to, and so does what the nodes have.
func TestWords(t *testing.T) {
	for seed := range int64(300) {
		r := rand.New(rand.NewSource(seed))
		c, g := both(t)
		w := &words{c: field(t, 0, 3, 0)}
		eager := 2 + r.Intn(6)
		for i := range 120 {
			var got, want []byte
			switch n := r.Intn(10); {
			case n == 0:
				x := anyAct(r)
				if e, f := c.Do(x), w.c.Do(x); e != f {
					t.Fatalf("seed %d, %d: %+v is %v, not %v", seed, i, x, e, f)
				}
			case n <= eager:
				b := anyRequest(r, i)
				got, want = g.Submit(b), w.submit(b)
			default:
				got, want = g.Step(), w.step()
			}
			if !bytes.Equal(got, want) || g.Waits() != len(w.list) || !same(c, w.c) {
				t.Fatalf("seed %d, %d: %v, not %v; %d wait, not %d", seed, i, got, want, g.Waits(), len(w.list))
			}
		}
	}
}

// P5, P23.4: who waits is answered once, in order, by what it comes to at one boundary, or by ErrTime, and then nothing was done.
func TestOnce(t *testing.T) {
	for seed := range int64(200) {
		r := rand.New(rand.NewSource(1000 + seed))
		c, g := both(t)
		// d is what the cluster would be, if what is answered were done at its boundary, and nothing else.
		d := field(t, 0, 3, 0)
		asked := map[int]api.Request{}
		var waits []int
		boundary := func() {
			b := g.Step()
			if len(b) != 0 {
				y, e := req.Read(b)
				if e != api.OK || len(waits) == 0 || y.ID != waits[0] {
					t.Fatalf("seed %d: %v is answered, and %v wait", seed, b, waits)
				}
				waits = waits[1:]
				if x := asked[y.ID]; y.E == api.OK && x.Kind != api.ReqRead && x.Kind != api.ReqState {
					do(t, d, api.Act{Kind: api.ActWrite, Node: x.Node, File: x.File, Rec: x.Rec, Val: y.Val})
				}
			}
			d.Do(api.Act{Kind: api.ActRound})
			if !same(c, d) || g.Waits() != len(waits) {
				t.Fatalf("seed %d: behind %v, %d wait, not %d, or the cluster is another one", seed, b, g.Waits(), len(waits))
			}
		}
		for i := range 80 {
			switch r.Intn(5) {
			case 0:
				x := anyAct(r)
				c.Do(x)
				d.Do(x)
			case 1, 2:
				b := anyRequest(r, i)
				x, _ := req.Take(b)
				// A turned bit may make an ID that is had already: here each is its own.
				if _, had := asked[x.ID]; had {
					continue
				}
				if r := g.Submit(b); len(r) == 0 {
					asked[x.ID] = x
					waits = append(waits, x.ID)
				}
			default:
				boundary()
			}
			if !same(c, d) {
				t.Fatalf("seed %d, %d: a request that waits, or was refused, has changed something", seed, i)
			}
		}
		for range 3 * len(waits) {
			boundary()
		}
		if len(waits) != 0 || g.Waits() != 0 {
			t.Fatalf("seed %d: %v are never answered", seed, waits)
		}
	}
}

// P5, R1: whatever bytes are given, it is told why they are refused, or they wait.
func TestAnyBytes(t *testing.T) {
	r := rand.New(rand.NewSource(23))
	c, g := both(t)
	d := field(t, 0, 3, 0)
	for range 20000 {
		b := make([]byte, r.Intn(16))
		r.Read(b)
		if len(b) > 5 && r.Intn(2) == 0 {
			b[0], b[1], b[4] = 0, byte(len(b)-2), byte(1+r.Intn(4))
		}
		was := slices.Clone(b)
		n := g.Waits()
		a := g.Submit(b)
		y, e := req.Read(a)
		if len(a) == 0 && g.Waits() == n+1 || e == api.OK && y.E != api.OK && g.Waits() == n {
			if !bytes.Equal(b, was) {
				t.Fatalf("%v was changed to %v", was, b)
			}
			continue
		}
		t.Fatalf("%v is %v, and %d wait where %d did", b, a, g.Waits(), n)
	}
	if !same(c, d) {
		t.Error("something has changed")
	}
}
