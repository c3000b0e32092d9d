package file

import (
	"encoding/binary"
	"math"
	"math/rand"
	"slices"
	"testing"

	"hayward/api"
)

// ends: numbers that are no permissions, no operation and no record; some of them would be, if they were cut to a byte or to 32 bits.
var ends = []int{math.MinInt, math.MinInt + 1, -1 << 32, -256, -255, -8, -2, -1, 256, 257, 512, 1 << 16, 1 << 32, 1<<32 + 1, 1 << 40, math.MaxInt - 1, math.MaxInt}

// made: a file that may be.
func made(t *testing.T, perm, records int) api.File {
	t.Helper()
	f, e := New(perm, records)
	if e != api.OK {
		t.Fatal(perm, records, e)
	}
	return f
}

func copied(f api.File) api.File {
	return api.File{Perm: f.Perm, Recs: append([]api.Rec(nil), f.Recs...)}
}

func alike(a, b api.File) bool {
	return a.Perm == b.Perm && len(a.Recs) == len(b.Recs) && string(flat(a)) == string(flat(b))
}

func flat(f api.File) []byte {
	var out []byte
	for _, r := range f.Recs {
		out = append(out, r[:]...)
	}
	return out
}

// P9.1: the document's example, all permissions with all numbers of records, and those around them.
func TestNew(t *testing.T) {
	if f := made(t, 3, 2); !alike(f, api.File{Perm: 3, Recs: []api.Rec{{2, 3, 165, 164}, {}, {}}}) {
		t.Error(f)
	}
	for perm := -1; perm <= 8; perm++ {
		for records := -1; records <= 256; records++ {
			f, e := New(perm, records)
			if perm < 0 || perm > 7 || records < 0 || records > 255 {
				if e != api.ErrArg || f.Perm != 0 || len(f.Recs) != 0 {
					t.Fatalf("New(%d, %d) is %v, %v", perm, records, f, e)
				}
				continue
			}
			want := api.File{Perm: perm, Recs: make([]api.Rec, records+1)}
			want.Recs[0] = api.Rec{byte(records), byte(perm), 0xA5, byte(records ^ perm ^ 0xA5)}
			if e != api.OK || !alike(f, want) || !Good(f) {
				t.Fatalf("New(%d, %d) is %v, %v", perm, records, f, e)
			}
		}
	}
}

// P9.1: permissions and numbers of records that may not be.
func TestNewWrong(t *testing.T) {
	for _, n := range ends {
		for _, c := range [][2]int{{n, 0}, {n, 255}, {0, n}, {7, n}, {n, n}} {
			if f, e := New(c[0], c[1]); e != api.ErrArg || f.Perm != 0 || len(f.Recs) != 0 {
				t.Errorf("New(%d, %d) is %v, %v", c[0], c[1], f, e)
			}
		}
	}
}

// P9.1: files that may not be.
func TestGood(t *testing.T) {
	f := made(t, 7, 4)
	full := made(t, 7, 255)
	over := append(copied(full).Recs, api.Rec{})
	wrapped := append([]api.Rec{}, over...)
	wrapped[0] = api.Rec{0, 7, 165, 162}
	for _, c := range []struct {
		name string
		f    api.File
		want bool
	}{
		{"nothing", api.File{}, false},
		{"permissions alone", api.File{Perm: 7}, false},
		{"an empty list", api.File{Recs: []api.Rec{}}, false},
		{"a header alone", api.File{Recs: []api.Rec{{0, 0, 165, 165}}}, true},
		{"a header alone, all permissions", api.File{Perm: 7, Recs: []api.Rec{{0, 7, 165, 162}}}, true},
		{"zeros", api.File{Recs: []api.Rec{{}}}, false},
		{"its records changed", api.File{Perm: 3, Recs: []api.Rec{{2, 3, 165, 164}, {1, 2, 3, 4}, {255, 255, 255, 255}}}, true},
		{"a record less", api.File{Perm: 7, Recs: f.Recs[:4]}, false},
		{"a record more", api.File{Perm: 7, Recs: append(copied(f).Recs, api.Rec{})}, false},
		{"no header", api.File{Perm: 7, Recs: f.Recs[1:]}, false},
		{"other permissions", api.File{Perm: 6, Recs: f.Recs}, false},
		{"permissions above 7, told by the header", api.File{Perm: 8, Recs: []api.Rec{{0, 8, 165, 173}}}, false},
		{"permissions below 0, told by the header", api.File{Perm: -1, Recs: []api.Rec{{0, 255, 165, 90}}}, false},
		{"as many records as may be", full, true},
		{"one more, its header as it was", api.File{Perm: 7, Recs: over}, false},
		{"one more, told by the header as 0", api.File{Perm: 7, Recs: wrapped}, false},
		{"the header last", api.File{Perm: 3, Recs: []api.Rec{{}, {1, 3, 165, 167}}}, false},
	} {
		if Good(c.f) != c.want {
			t.Errorf("%s: Good is %v", c.name, !c.want)
		}
	}
	for _, n := range ends {
		if Good(api.File{Perm: n, Recs: []api.Rec{{0, byte(n), 165, byte(n) ^ 165}}}) {
			t.Errorf("Good with Perm %d", n)
		}
	}
}

// P9.1: each byte of the header counts, all of its values.
func TestHeader(t *testing.T) {
	for perm := range 8 {
		f := made(t, perm, 3)
		for i := range 4 {
			was := f.Recs[0][i]
			for b := range 256 {
				f.Recs[0][i] = byte(b)
				if Good(f) != (byte(b) == was) {
					t.Fatalf("Perm %d, header %v: Good is %v", perm, f.Recs[0], Good(f))
				}
			}
			f.Recs[0][i] = was
		}
		// Of headers whose bytes fit to each other there is but one.
		for n := range 256 {
			f.Recs[0] = api.Rec{byte(n), byte(perm), 165, byte(n ^ perm ^ 165)}
			if Good(f) != (n == 3) {
				t.Fatalf("Perm %d, header %v: Good is %v", perm, f.Recs[0], Good(f))
			}
		}
	}
}

// P9.1: of files that may be, and of others.
func TestSame(t *testing.T) {
	f := made(t, 5, 3)
	last := copied(f)
	last.Recs[3][3] = 1
	first := copied(f)
	first.Recs[0][0] = 9
	for _, c := range []struct {
		name string
		a, b api.File
		want bool
	}{
		{"nothing", api.File{}, api.File{}, true},
		{"nil and empty", api.File{}, api.File{Recs: []api.Rec{}}, true},
		{"itself", f, f, true},
		{"a copy", f, copied(f), true},
		{"made twice", f, made(t, 5, 3), true},
		{"other permissions", f, api.File{Perm: 4, Recs: f.Recs}, false},
		{"other permissions, no records", api.File{Perm: 1}, api.File{Perm: 2}, false},
		{"wrong permissions, alike", api.File{Perm: math.MinInt}, api.File{Perm: math.MinInt}, true},
		{"wrong permissions, alike in their low bits", api.File{Perm: 1}, api.File{Perm: 1<<32 + 1}, false},
		{"the last byte", f, last, false},
		{"the first byte", f, first, false},
		{"a wrong header, alike", first, copied(first), true},
		{"a record less", f, api.File{Perm: 5, Recs: f.Recs[:3]}, false},
		{"a record against none", api.File{Recs: []api.Rec{{}}}, api.File{}, false},
		{"turned", api.File{Recs: []api.Rec{{1}, {2}}}, api.File{Recs: []api.Rec{{2}, {1}}}, false},
		{"too many records, alike", api.File{Recs: make([]api.Rec, 400)}, api.File{Recs: make([]api.Rec, 400)}, true},
		{"too many records, one more", api.File{Recs: make([]api.Rec, 400)}, api.File{Recs: make([]api.Rec, 401)}, false},
	} {
		if Same(c.a, c.b) != c.want || Same(c.b, c.a) != c.want {
			t.Errorf("%s: Same is not %v", c.name, c.want)
		}
	}
}

// P9.2: what each operation does.
func TestDo(t *testing.T) {
	f := made(t, 7, 2)
	f.Recs[1] = api.Rec{9, 8, 7, 6}
	v := api.Rec{1, 2, 3, 4}
	for _, c := range []struct {
		name    string
		op, rec int
		want    api.Rec
	}{
		{"read the header", api.OpRead, 0, api.Rec{2, 7, 165, 160}},
		{"read a record", api.OpRead, 1, api.Rec{9, 8, 7, 6}},
		{"read the last one", api.OpRead, 2, api.Rec{}},
		{"write a record", api.OpWrite, 1, v},
		{"write the last one", api.OpWrite, 2, v},
		{"execute a record", api.OpExec, 1, api.Rec{9, 8, 7, 7}},
		{"execute the last one", api.OpExec, 2, api.Rec{0, 0, 0, 1}},
	} {
		want := copied(f)
		want.Recs[c.rec] = c.want
		g, w, e := Do(f, c.op, c.rec, v)
		if e != api.OK || w != c.want || !alike(g, want) || !Good(g) {
			t.Errorf("%s: Do is %v, %v, %v", c.name, g, w, e)
		}
	}
}

// P9.2: numbers, and what comes behind them.
func TestOneMore(t *testing.T) {
	for _, c := range [][2]api.Rec{
		{{}, {0, 0, 0, 1}},
		{{0, 0, 0, 254}, {0, 0, 0, 255}},
		{{0, 0, 0, 255}, {0, 0, 1, 0}},
		{{1, 2, 255, 255}, {1, 3, 0, 0}},
		{{0, 0, 255, 0}, {0, 0, 255, 1}},
		{{0, 255, 255, 255}, {1, 0, 0, 0}},
		{{0, 255, 0, 255}, {0, 255, 1, 0}},
		{{255, 0, 0, 0}, {255, 0, 0, 1}},
		{{127, 255, 255, 255}, {128, 0, 0, 0}},
		{{255, 255, 255, 254}, {255, 255, 255, 255}},
		{{255, 255, 255, 255}, {}},
	} {
		f := made(t, api.MayExec, 1)
		f.Recs[1] = c[0]
		g, w, e := Do(f, api.OpExec, 1, api.Rec{5, 5, 5, 5})
		if e != api.OK || w != c[1] || g.Recs[1] != c[1] {
			t.Errorf("behind %v comes %v, %v", c[0], w, e)
		}
	}
	random := rand.New(rand.NewSource(9))
	f := made(t, api.MayExec, 1)
	for range 20000 {
		n := random.Uint32()
		if random.Intn(2) == 0 {
			n |= 1<<random.Intn(32) - 1
		}
		binary.BigEndian.PutUint32(f.Recs[1][:], n)
		_, w, e := Do(f, api.OpExec, 1, api.Rec{})
		if e != api.OK || binary.BigEndian.Uint32(w[:]) != n+1 {
			t.Fatalf("behind %v comes %v, %v", f.Recs[1], w, e)
		}
	}
}

// due: the error that the document asks for.
func due(f api.File, op, rec int) api.Errno {
	switch {
	case !Good(f):
		return api.ErrForm
	case op != 0 && op != 1 && op != 2:
		return api.ErrArg
	case rec < 0 || rec > int(f.Recs[0][0]):
		return api.ErrRange
	case rec == 0 && op == 0:
		return api.OK
	case rec == 0 || f.Perm&(1<<op) == 0:
		return api.ErrPerm
	}
	return api.OK
}

// answers: what Do says is what the document asks for.
func answers(t *testing.T, f api.File, op, rec int) {
	t.Helper()
	v := api.Rec{200, 100, 50, 25}
	g, w, e := Do(f, op, rec, v)
	if want := due(f, op, rec); e != want {
		t.Fatalf("Perm %d, %d records: Do(%d, %d) is %v, not %v", f.Perm, len(f.Recs), op, rec, e, want)
	}
	if e != api.OK {
		if g.Perm != 0 || len(g.Recs) != 0 || w != (api.Rec{}) {
			t.Fatalf("Do(%d, %d) is %v, %v beside %v", op, rec, g, w, e)
		}
		return
	}
	want := copied(f)
	switch op {
	case api.OpWrite:
		want.Recs[rec] = v
	case api.OpExec:
		binary.BigEndian.PutUint32(want.Recs[rec][:], binary.BigEndian.Uint32(f.Recs[rec][:])+1)
	}
	if !alike(g, want) || w != want.Recs[rec] || !Good(g) {
		t.Fatalf("Perm %d, %d records: Do(%d, %d) is %v, %v", f.Perm, len(f.Recs), op, rec, g, w)
	}
}

// P9.2: all permissions, operations and records, and those around them.
func TestDoAll(t *testing.T) {
	for perm := range 8 {
		for _, records := range []int{0, 1, 2, 7, 254, 255} {
			f := made(t, perm, records)
			for i := 1; i < len(f.Recs); i++ {
				f.Recs[i] = api.Rec{byte(i), 0, byte(i), 255}
			}
			for op := -2; op <= 5; op++ {
				for rec := -2; rec <= records+2; rec++ {
					answers(t, f, op, rec)
				}
			}
			for _, n := range ends {
				answers(t, f, n, 0)
				answers(t, f, n, n)
				for op := range 3 {
					answers(t, f, op, n)
				}
			}
		}
	}
}

// P9.2: which error is told, where several apply.
func TestFirstError(t *testing.T) {
	none := made(t, 0, 1)
	all := made(t, 7, 1)
	torn := copied(all)
	torn.Recs[0][3]++
	for _, c := range []struct {
		name    string
		f       api.File
		op, rec int
		want    api.Errno
	}{
		{"nothing is right", api.File{Perm: -1}, 3, -1, api.ErrForm},
		{"no file, but all else", api.File{}, api.OpRead, 0, api.ErrForm},
		{"a torn header is not read", torn, api.OpRead, 0, api.ErrForm},
		{"a torn header, no operation", torn, -1, 0, api.ErrForm},
		{"a torn header, no record", torn, api.OpRead, 2, api.ErrForm},
		{"no operation, no record", all, 3, 2, api.ErrArg},
		{"no operation, the header", none, 4, 0, api.ErrArg},
		{"no record, no permission", none, api.OpExec, 2, api.ErrRange},
		{"ahead of the header", none, api.OpWrite, -1, api.ErrRange},
		{"no permission", none, api.OpRead, 1, api.ErrPerm},
		{"the header of a file without permissions", none, api.OpRead, 0, api.OK},
		{"the header is not written", all, api.OpWrite, 0, api.ErrPerm},
		{"the header is not executed", all, api.OpExec, 0, api.ErrPerm},
	} {
		if _, _, e := Do(c.f, c.op, c.rec, api.Rec{}); e != c.want {
			t.Errorf("%s: %v", c.name, e)
		}
	}
}

// P9.2: v counts for OpWrite alone.
func TestValue(t *testing.T) {
	f := made(t, 7, 1)
	f.Recs[1] = api.Rec{4, 3, 2, 1}
	for _, v := range []api.Rec{{}, {1, 1, 1, 1}, {255, 255, 255, 255}, {1, 7, 165, 163}} {
		if _, w, e := Do(f, api.OpRead, 1, v); w != f.Recs[1] || e != api.OK {
			t.Error(v, w, e)
		}
		if _, w, e := Do(f, api.OpExec, 1, v); w != (api.Rec{4, 3, 2, 2}) || e != api.OK {
			t.Error(v, w, e)
		}
		if _, w, e := Do(f, api.OpWrite, 1, v); w != v || e != api.OK {
			t.Error(v, w, e)
		}
		if _, _, e := Do(f, api.OpWrite, 0, v); e != api.ErrPerm {
			t.Error(v, e)
		}
	}
}

// spare: a file whose list has room behind it, all of it filled.
func spare(t *testing.T) (api.File, []api.Rec) {
	t.Helper()
	f := made(t, 7, 2)
	room := append(copied(f).Recs, slices.Repeat([]api.Rec{{9, 9, 9, 9}}, 8)...)
	return api.File{Perm: 7, Recs: room[:3]}, room
}

// fill: writes over all of a list, its spare room too.
func fill(list []api.Rec) {
	for i := range list[:cap(list)] {
		list[:cap(list)][i] = api.Rec{6, 6, 6, 6}
	}
}

// P9.1, P9.2: what is handed in is not changed, and what is answered is nobody else's.
func TestMemory(t *testing.T) {
	f, room := spare(t)
	was := append([]api.Rec(nil), room...)
	for op := -1; op <= 3; op++ {
		for rec := -1; rec <= 3; rec++ {
			g, _, e := Do(f, op, rec, api.Rec{1, 2, 3, 4})
			h, _, _ := Do(f, op, rec, api.Rec{1, 2, 3, 4})
			kept := copied(h)
			fill(g.Recs)
			if !alike(h, kept) {
				t.Errorf("Do(%d, %d): two answers are one memory", op, rec)
			}
			if !slices.Equal(room, was) {
				t.Fatalf("Do(%d, %d) is %v: what was handed in is changed", op, rec, e)
			}
		}
	}
	Good(f)
	Same(f, f)
	if !slices.Equal(room, was) {
		t.Error("what was handed in is changed")
	}
	a := made(t, 1, 2)
	fill(a.Recs)
	if b := made(t, 1, 2); !alike(b, api.File{Perm: 1, Recs: []api.Rec{{2, 1, 165, 166}, {}, {}}}) {
		t.Error("New's answers are one memory")
	}
	g, _, _ := Do(f, api.OpRead, 1, api.Rec{})
	fill(room)
	if !Good(g) {
		t.Error("an answer is what was handed in")
	}
}
