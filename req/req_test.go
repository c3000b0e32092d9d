package req

import (
	"bytes"
	"math"
	"math/rand"
	"slices"
	"testing"

	"hayward/api"
)

// ends: numbers that no field may have; some of them would be let, if they were cut to a byte, to two or to 32 bits.
var ends = []int{math.MinInt, math.MinInt + 1, math.MinInt + 2, -1 << 32, -1<<32 + 1, -1<<32 + 2, -65536, -65535, -256, -255, -254, -64, -2, -1, 65536, 65537, 65538, 1 << 17, 1 << 31, 1 << 32, 1<<32 + 1, 1<<32 + 2, 1 << 40, math.MaxInt - 1, math.MaxInt}

// may: may a request be? As the document has it, field by field.
func may(x api.Request) bool {
	state, write := x.Kind == 4, x.Kind == 2
	return x.ID >= 0 && x.ID <= 65535 &&
		(x.Kind == 1 || x.Kind == 2 || x.Kind == 3 || x.Kind == 4) &&
		x.Node >= 0 && x.Node <= 31 &&
		x.File >= 0 && x.File <= 63 && (!state || x.File == 0) &&
		x.Rec >= 0 && x.Rec <= 255 && (!state || x.Rec == 0) &&
		x.Key >= 0 && x.Key <= 255 &&
		(write || x.Val == api.Rec{0, 0, 0, 0})
}

// told: the bytes of a request that may be.
func told(x api.Request) []byte {
	b := []byte{0, 7, byte(x.ID / 256), byte(x.ID % 256), byte(x.Kind), byte(x.Node), byte(x.File), byte(x.Rec), byte(x.Key)}
	if x.Kind == 2 {
		b[1] = 11
		b = append(b, x.Val[0], x.Val[1], x.Val[2], x.Val[3])
	}
	return b
}

// asked: the request of bytes; false, if they are none's.
func asked(b []byte) (api.Request, bool) {
	if len(b) != 9 && len(b) != 13 {
		return api.Request{}, false
	}
	x := api.Request{ID: 256*int(b[2]) + int(b[3]), Kind: int(b[4]), Node: int(b[5]), File: int(b[6]), Rec: int(b[7]), Key: int(b[8])}
	long := len(b) == 13
	if long {
		x.Val = api.Rec{b[9], b[10], b[11], b[12]}
	}
	if b[0] != 0 || int(b[1]) != len(b)-2 || long != (x.Kind == 2) || !may(x) {
		return api.Request{}, false
	}
	return x, true
}

// holds: P21.1 of a request.
func holds(t *testing.T, x api.Request) {
	t.Helper()
	if got := Good(x); got != may(x) {
		t.Fatalf("Good of %v is %v", x, got)
	}
	b, e := Put(x)
	if !may(x) {
		if len(b) != 0 || e != api.ErrArg {
			t.Fatalf("Put of %v is %v, %v", x, b, e)
		}
		return
	}
	if !bytes.Equal(b, told(x)) || e != api.OK {
		t.Fatalf("Put of %v is %v, %v", x, b, e)
	}
	takes(t, b)
}

// takes: P21.1 of bytes.
func takes(t *testing.T, b []byte) {
	t.Helper()
	want, ok := asked(b)
	x, e := Take(b)
	if ok != (e == api.OK) || !ok && e != api.ErrForm || x != want {
		t.Fatalf("Take of %v is %v, %v", b, x, e)
	}
}

// some: a request of each kind, all fields of which differ.
func some() []api.Request {
	return []api.Request{
		{ID: 258, Kind: api.ReqRead, Node: 3, File: 4, Rec: 5, Key: 6},
		{ID: 772, Kind: api.ReqWrite, Node: 5, File: 6, Rec: 7, Key: 8, Val: api.Rec{9, 10, 11, 12}},
		{ID: 1286, Kind: api.ReqExec, Node: 7, File: 8, Rec: 9, Key: 10},
		{ID: 1800, Kind: api.ReqState, Node: 9, Key: 12},
	}
}

// fields: a request's numbers.
func fields(x *api.Request) []*int {
	return []*int{&x.ID, &x.Kind, &x.Node, &x.File, &x.Rec, &x.Key}
}

// P21.1: the document's example, and requests written out.
func TestPut(t *testing.T) {
	for _, c := range []struct {
		name string
		x    api.Request
		want []byte
	}{
		{"example", api.Request{ID: 9, Kind: api.ReqRead, Node: 3, File: 2, Rec: 1}, []byte{0, 7, 0, 9, 1, 3, 2, 1, 0}},
		{"the least to read", api.Request{Kind: api.ReqRead}, []byte{0, 7, 0, 0, 1, 0, 0, 0, 0}},
		{"the greatest to read", api.Request{ID: 65535, Kind: api.ReqRead, Node: 31, File: 63, Rec: 255, Key: 255}, []byte{0, 7, 255, 255, 1, 31, 63, 255, 255}},
		{"the least to write", api.Request{Kind: api.ReqWrite}, []byte{0, 11, 0, 0, 2, 0, 0, 0, 0, 0, 0, 0, 0}},
		{"the greatest to write", api.Request{ID: 65535, Kind: api.ReqWrite, Node: 31, File: 63, Rec: 255, Key: 255, Val: api.Rec{255, 255, 255, 255}}, []byte{0, 11, 255, 255, 2, 31, 63, 255, 255, 255, 255, 255, 255}},
		{"to write", api.Request{ID: 4660, Kind: api.ReqWrite, Node: 1, File: 2, Rec: 3, Key: 4, Val: api.Rec{5, 6, 7, 8}}, []byte{0, 11, 18, 52, 2, 1, 2, 3, 4, 5, 6, 7, 8}},
		{"to execute", api.Request{ID: 256, Kind: api.ReqExec, Node: 1, File: 2, Rec: 3, Key: 4}, []byte{0, 7, 1, 0, 3, 1, 2, 3, 4}},
		{"the least of the state", api.Request{Kind: api.ReqState}, []byte{0, 7, 0, 0, 4, 0, 0, 0, 0}},
		{"the greatest of the state", api.Request{ID: 65535, Kind: api.ReqState, Node: 31, Key: 255}, []byte{0, 7, 255, 255, 4, 31, 0, 0, 255}},
	} {
		if !Good(c.x) {
			t.Errorf("%s: may not be", c.name)
		}
		if b, e := Put(c.x); !bytes.Equal(b, c.want) || e != api.OK {
			t.Errorf("%s: Put is %v, %v", c.name, b, e)
		}
		if x, e := Take(c.want); x != c.x || e != api.OK {
			t.Errorf("%s: Take is %v, %v", c.name, x, e)
		}
	}
}

// P21.1: each number of each kind of request, from below what it may be to above it, and at its ends.
func TestEachField(t *testing.T) {
	for _, right := range some() {
		holds(t, right)
		for i := range fields(&right) {
			for n := -300; n <= 66000; n++ {
				x := right
				*fields(&x)[i] = n
				holds(t, x)
			}
			for _, n := range ends {
				x := right
				*fields(&x)[i] = n
				if Good(x) {
					t.Errorf("%v may be", x)
				}
				holds(t, x)
			}
		}
		for i := range right.Val {
			for n := range 256 {
				x := right
				x.Val[i] = byte(n)
				holds(t, x)
			}
		}
	}
	for _, n := range ends {
		holds(t, api.Request{ID: n, Kind: n, Node: n, File: n, Rec: n, Key: n})
		for kind := 1; kind <= 4; kind++ {
			holds(t, api.Request{ID: n, Kind: kind, Node: n, File: n, Rec: n, Key: n})
		}
	}
}

// P21.1: the numbers at their edges, all beside all.
func TestEdges(t *testing.T) {
	ids, kinds, small := []int{-1, 0, 1, 255, 256, 65535, 65536}, []int{-1, 0, 1, 2, 3, 4, 5, 6, 257, 258}, []int{-1, 0, 1, 255, 256}
	nodes, files := []int{-1, 0, 1, 31, 32, 256}, []int{-1, 0, 1, 63, 64, 256}
	for _, id := range ids {
		for _, kind := range kinds {
			for _, node := range nodes {
				for _, f := range files {
					for _, rec := range small {
						for _, key := range small {
							holds(t, api.Request{ID: id, Kind: kind, Node: node, File: f, Rec: rec, Key: key})
							holds(t, api.Request{ID: id, Kind: kind, Node: node, File: f, Rec: rec, Key: key, Val: api.Rec{0, 0, 0, 1}})
						}
					}
				}
			}
		}
	}
}

// P21.1: requests that may not be.
func TestWrongRequests(t *testing.T) {
	for _, x := range []api.Request{
		{},
		{ID: 1, Node: 1, File: 1, Rec: 1, Key: 1},
		{Kind: 5},
		{Kind: -1},
		{Kind: 257},
		{Kind: api.ReqRead, ID: 65536},
		{Kind: api.ReqRead, ID: -1},
		{Kind: api.ReqWrite, Node: 32},
		{Kind: api.ReqWrite, Node: -1},
		{Kind: api.ReqWrite, File: 64},
		{Kind: api.ReqExec, File: -1},
		{Kind: api.ReqExec, Rec: 256},
		{Kind: api.ReqExec, Rec: -1},
		{Kind: api.ReqExec, Key: 256},
		{Kind: api.ReqState, Key: -1},
		// Nothing but what is written has a Val.
		{Kind: api.ReqRead, Val: api.Rec{1}},
		{Kind: api.ReqRead, Val: api.Rec{0, 0, 0, 1}},
		{Kind: api.ReqExec, Val: api.Rec{0, 1}},
		{Kind: api.ReqState, Val: api.Rec{0, 0, 1}},
		// The state is nobody's record.
		{Kind: api.ReqState, File: 1},
		{Kind: api.ReqState, Rec: 1},
		{Kind: api.ReqState, File: 1, Rec: 1},
		{Kind: api.ReqState, File: 63, Rec: 255},
		{Kind: api.ReqState, Node: 32},
	} {
		if b, e := Put(x); Good(x) || len(b) != 0 || e != api.ErrArg {
			t.Errorf("%v: Good is %v, Put %v, %v", x, Good(x), b, e)
		}
	}
}

// P21.1: bytes that are no request's.
func TestNoRequest(t *testing.T) {
	for _, c := range []struct {
		name string
		b    []byte
	}{
		{"nothing", nil},
		{"no byte", []byte{}},
		{"a count alone", []byte{0, 0}},
		{"an ID alone", []byte{0, 2, 0, 1}},
		{"no key", []byte{0, 6, 0, 9, 1, 3, 2, 1}},
		{"no key, by its count", []byte{0, 6, 0, 9, 1, 3, 2, 1, 0}},
		{"a byte more than is counted", []byte{0, 7, 0, 9, 1, 3, 2, 1, 0, 0}},
		{"a byte fewer than is counted", []byte{0, 8, 0, 9, 1, 3, 2, 1, 0}},
		{"a byte too many", []byte{0, 8, 0, 9, 1, 3, 2, 1, 0, 0}},
		{"the count's bytes swapped", []byte{7, 0, 0, 9, 1, 3, 2, 1, 0}},
		{"a count above 255", []byte{1, 7, 0, 9, 1, 3, 2, 1, 0}},
		{"the count counts itself", []byte{0, 9, 0, 9, 1, 3, 2, 1, 0}},
		{"no kind", []byte{0, 7, 0, 9, 0, 3, 2, 1, 0}},
		{"a kind too great", []byte{0, 7, 0, 9, 5, 3, 2, 1, 0}},
		{"no such node", []byte{0, 7, 0, 9, 1, 32, 2, 1, 0}},
		{"no such file", []byte{0, 7, 0, 9, 1, 3, 64, 1, 0}},
		{"to write nothing", []byte{0, 7, 0, 9, 2, 3, 2, 1, 0}},
		{"to write three bytes", []byte{0, 10, 0, 9, 2, 3, 2, 1, 0, 1, 2, 3}},
		{"to write five bytes", []byte{0, 12, 0, 9, 2, 3, 2, 1, 0, 1, 2, 3, 4, 5}},
		{"to write four bytes, counted as none", []byte{0, 7, 0, 9, 2, 3, 2, 1, 0, 1, 2, 3, 4}},
		{"to write no bytes, counted as four", []byte{0, 11, 0, 9, 2, 3, 2, 1, 0}},
		{"to read with a Val", []byte{0, 11, 0, 9, 1, 3, 2, 1, 0, 1, 2, 3, 4}},
		{"to read with a Val of bytes 0", []byte{0, 11, 0, 9, 1, 3, 2, 1, 0, 0, 0, 0, 0}},
		{"to execute with a Val of bytes 0", []byte{0, 11, 0, 9, 3, 3, 2, 1, 0, 0, 0, 0, 0}},
		{"the state with a Val of bytes 0", []byte{0, 11, 0, 9, 4, 3, 0, 0, 0, 0, 0, 0, 0}},
		{"the state of a file", []byte{0, 7, 0, 9, 4, 3, 2, 0, 0}},
		{"the state of a record", []byte{0, 7, 0, 9, 4, 3, 0, 1, 0}},
		{"two requests", []byte{0, 7, 0, 9, 1, 3, 2, 1, 0, 0, 7, 0, 9, 1, 3, 2, 1, 0}},
	} {
		if x, e := Take(c.b); x != (api.Request{}) || e != api.ErrForm {
			t.Errorf("%s: Take is %v, %v", c.name, x, e)
		}
	}
}

// near: bytes, each of them changed to all that it can be, each left out, and cut or made longer.
func near(b []byte, look func([]byte)) {
	for i := range b {
		for n := range 256 {
			c := slices.Clone(b)
			c[i] = byte(n)
			look(c)
			for _, m := range []byte{0, 1, 2, 4, 7, 11, 255} {
				d := slices.Clone(c)
				d[(i+1)%len(d)] = m
				look(d)
			}
		}
		look(b[:i])
		look(b[i:])
		look(slices.Delete(slices.Clone(b), i, i+1))
		look(slices.Insert(slices.Clone(b), i, 0))
	}
	for n := range 300 {
		look(append(slices.Clone(b), make([]byte, n)...))
		look(append(slices.Clone(b), slices.Repeat([]byte{9}, n)...))
	}
}

// P21.1: bytes near to a request's, and with a right count, too.
func TestNearRequests(t *testing.T) {
	took := 0
	look := func(b []byte) {
		takes(t, b)
		if _, ok := asked(b); ok {
			took++
		}
		if len(b) > 1 {
			b = slices.Clone(b)
			b[0], b[1] = byte((len(b)-2)>>8), byte(len(b)-2)
			takes(t, b)
		}
	}
	for _, x := range some() {
		near(told(x), look)
	}
	if took == 0 {
		t.Error("nothing was taken")
	}
	// As many as a count can count, and more: the count's bytes wrap round.
	for _, n := range []int{65535, 65536, 65537, 65536 + 7, 65536 + 11, 1 << 20} {
		for _, x := range some() {
			takes(t, append(told(x), make([]byte, n+2-len(told(x)))...))
		}
	}
}

// P21.1: random bytes, most of them near to a request's, of which some are taken.
func TestManyRequests(t *testing.T) {
	random := rand.New(rand.NewSource(21))
	took := 0
	for range 300000 {
		b := make([]byte, []int{9, 9, 13, 13, random.Intn(20)}[random.Intn(5)])
		for i := range b {
			b[i] = byte(random.Intn(256))
		}
		if len(b) > 8 {
			b[0], b[1], b[4], b[5], b[6] = 0, byte(len(b)-2), byte(random.Intn(6)), byte(random.Intn(34)), byte(random.Intn(66))
			if random.Intn(4) == 0 {
				b[6], b[7] = 0, 0
			}
		}
		takes(t, b)
		x, ok := asked(b)
		if !ok {
			continue
		}
		took++
		if c, e := Put(x); !bytes.Equal(b, c) || e != api.OK {
			t.Fatalf("Put of %v is %v, %v, not %v", x, c, e, b)
		}
	}
	if took < 10000 || took > 290000 {
		t.Errorf("%d were taken", took)
	}
}

// mayBe: may a reply be?
func mayBe(y api.Reply) bool {
	return y.ID >= 0 && y.ID <= 65535 && y.E >= 0 && y.E <= 16 && (y.E == 0 || y.Val == api.Rec{0, 0, 0, 0})
}

// answered: the bytes of a reply that may be.
func answered(y api.Reply) []byte {
	return []byte{0, 7, byte(y.ID / 256), byte(y.ID % 256), byte(y.E), y.Val[0], y.Val[1], y.Val[2], y.Val[3]}
}

// answers: P21.2 of a reply.
func answers(t *testing.T, y api.Reply) {
	t.Helper()
	b, e := Answer(y)
	if !mayBe(y) {
		if len(b) != 0 || e != api.ErrArg {
			t.Fatalf("Answer of %v is %v, %v", y, b, e)
		}
		return
	}
	if !bytes.Equal(b, answered(y)) || e != api.OK {
		t.Fatalf("Answer of %v is %v, %v", y, b, e)
	}
	reads(t, b)
}

// reads: P21.2 of bytes.
func reads(t *testing.T, b []byte) (taken bool) {
	t.Helper()
	var want api.Reply
	if len(b) == 9 && b[0] == 0 && b[1] == 7 {
		y := api.Reply{ID: 256*int(b[2]) + int(b[3]), E: api.Errno(b[4]), Val: api.Rec{b[5], b[6], b[7], b[8]}}
		if taken = mayBe(y); taken {
			want = y
		}
	}
	y, e := Read(b)
	if taken != (e == api.OK) || !taken && e != api.ErrForm || y != want {
		t.Fatalf("Read of %v is %v, %v", b, y, e)
	}
	return taken
}

// P21.2: replies written out.
func TestAnswer(t *testing.T) {
	for _, c := range []struct {
		name string
		y    api.Reply
		want []byte
	}{
		{"nothing", api.Reply{}, []byte{0, 7, 0, 0, 0, 0, 0, 0, 0}},
		{"the greatest", api.Reply{ID: 65535, Val: api.Rec{255, 255, 255, 255}}, []byte{0, 7, 255, 255, 0, 255, 255, 255, 255}},
		{"a record", api.Reply{ID: 4660, Val: api.Rec{5, 6, 7, 8}}, []byte{0, 7, 18, 52, 0, 5, 6, 7, 8}},
		{"the first error", api.Reply{ID: 256, E: api.ErrArg}, []byte{0, 7, 1, 0, 1, 0, 0, 0, 0}},
		{"no answer in time", api.Reply{ID: 9, E: api.ErrTime}, []byte{0, 7, 0, 9, 13, 0, 0, 0, 0}},
		{"the last error", api.Reply{ID: 255, E: api.ErrText}, []byte{0, 7, 0, 255, 16, 0, 0, 0, 0}},
	} {
		if b, e := Answer(c.y); !bytes.Equal(b, c.want) || e != api.OK {
			t.Errorf("%s: Answer is %v, %v", c.name, b, e)
		}
		if y, e := Read(c.want); y != c.y || e != api.OK {
			t.Errorf("%s: Read is %v, %v", c.name, y, e)
		}
	}
}

// P21.2: all IDs, all errors, and the numbers around them and at their ends.
func TestAllReplies(t *testing.T) {
	vals := []api.Rec{{}, {1}, {0, 1}, {0, 0, 1}, {0, 0, 0, 1}, {9, 8, 7, 6}, {255, 255, 255, 255}}
	for id := -300; id <= 66000; id++ {
		for _, v := range vals {
			answers(t, api.Reply{ID: id, Val: v})
			answers(t, api.Reply{ID: id, E: api.ErrGap, Val: v})
		}
	}
	for e := api.Errno(-300); e <= 700; e++ {
		for _, v := range vals {
			answers(t, api.Reply{ID: 513, E: e, Val: v})
			answers(t, api.Reply{E: e, Val: v})
			answers(t, api.Reply{ID: -1, E: e, Val: v})
		}
	}
	for _, n := range ends {
		for _, v := range vals {
			for _, y := range []api.Reply{{ID: n, Val: v}, {E: api.Errno(n), Val: v}, {ID: n, E: api.Errno(n), Val: v}, {ID: n, E: 1, Val: v}, {ID: 7, E: api.Errno(n), Val: v}} {
				if b, e := Answer(y); len(b) != 0 || e != api.ErrArg {
					t.Errorf("Answer of %v is %v, %v", y, b, e)
				}
			}
		}
	}
}

// P21.2: bytes that are no reply's.
func TestNoReply(t *testing.T) {
	for _, c := range []struct {
		name string
		b    []byte
	}{
		{"nothing", nil},
		{"no byte", []byte{}},
		{"an ID alone", []byte{0, 2, 0, 1}},
		{"an error without a Val", []byte{0, 3, 0, 1, 1}},
		{"a byte fewer", []byte{0, 6, 0, 1, 0, 5, 6, 7}},
		{"a byte fewer than is counted", []byte{0, 7, 0, 1, 0, 5, 6, 7}},
		{"a byte more", []byte{0, 8, 0, 1, 0, 5, 6, 7, 8, 9}},
		{"a byte more than is counted", []byte{0, 7, 0, 1, 0, 5, 6, 7, 8, 0}},
		{"a count too small", []byte{0, 6, 0, 1, 0, 5, 6, 7, 8}},
		{"a count too great", []byte{0, 8, 0, 1, 0, 5, 6, 7, 8}},
		{"the count counts itself", []byte{0, 9, 0, 1, 0, 5, 6, 7, 8}},
		{"a count above 255", []byte{1, 7, 0, 1, 0, 5, 6, 7, 8}},
		{"the count's bytes swapped", []byte{7, 0, 0, 1, 0, 5, 6, 7, 8}},
		{"no such error", []byte{0, 7, 0, 1, 17, 0, 0, 0, 0}},
		{"the last of the errors that are none", []byte{0, 7, 0, 1, 255, 0, 0, 0, 0}},
		{"an error with a Val", []byte{0, 7, 0, 1, 1, 0, 0, 0, 1}},
		{"the last error with a Val", []byte{0, 7, 0, 1, 16, 1, 0, 0, 0}},
	} {
		if y, e := Read(c.b); y != (api.Reply{}) || e != api.ErrForm {
			t.Errorf("%s: Read is %v, %v", c.name, y, e)
		}
	}
}

// P21.2: bytes near to a reply's.
func TestNearReplies(t *testing.T) {
	took := 0
	look := func(b []byte) {
		if reads(t, b) {
			took++
		}
	}
	for _, y := range []api.Reply{{}, {ID: 258, Val: api.Rec{3, 4, 5, 6}}, {ID: 65535, E: 1}, {ID: 1, E: 16}} {
		near(answered(y), look)
		look(append(answered(y), make([]byte, 65536)...))
	}
	for _, x := range some() {
		near(told(x), look)
	}
	if took == 0 {
		t.Error("nothing was read")
	}
}

// P21.2: random bytes, most of them near to a reply's, of which some are read.
func TestManyReplies(t *testing.T) {
	random := rand.New(rand.NewSource(22))
	took := 0
	for range 200000 {
		b := make([]byte, []int{9, 9, 9, random.Intn(14)}[random.Intn(4)])
		for i := range b {
			b[i] = byte(random.Intn(256))
		}
		if len(b) > 5 {
			b[0], b[1], b[4] = 0, 7, byte(random.Intn(19))
			if random.Intn(2) == 0 {
				clear(b[5:])
			}
		}
		if reads(t, b) {
			took++
		}
	}
	if took < 10000 || took > 190000 {
		t.Errorf("%d were read", took)
	}
}

// R4: what is answered is nobody else's, spare room included, and what is handed in is not changed.
func TestMemory(t *testing.T) {
	for _, x := range some() {
		one, _ := Put(x)
		other, _ := Put(x)
		fill(one)
		if !bytes.Equal(other, told(x)) {
			t.Errorf("two answers of Put of %v are one memory", x)
		}
		fill(other)
		if again, e := Put(x); !bytes.Equal(again, told(x)) || e != api.OK {
			t.Errorf("Put of %v is kept", x)
		}
		room := append(told(x), 1, 2, 3, 4, 5)
		was := slices.Clone(room)
		for n := range room {
			Take(room[:n])
			Read(room[:n])
		}
		if !bytes.Equal(room, was) {
			t.Errorf("Take or Read changed %v to %v", was, room)
		}
	}
	y := api.Reply{ID: 258, Val: api.Rec{3, 4, 5, 6}}
	one, _ := Answer(y)
	other, _ := Answer(y)
	fill(one)
	if !bytes.Equal(other, answered(y)) {
		t.Error("two answers of Answer are one memory")
	}
	room := append(answered(y), 1, 2, 3, 4, 5)
	was := slices.Clone(room)
	Read(room[:9])
	Take(room[:9])
	if !bytes.Equal(room, was) {
		t.Errorf("Read or Take changed %v to %v", was, room)
	}
}

// fill: writes over all of a list, its spare room too.
func fill(b []byte) {
	b = b[:cap(b)]
	for i := range b {
		b[i] = 99
	}
}
