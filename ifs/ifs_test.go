package ifs

import (
	"encoding/binary"
	"errors"
	"math"
	"math/rand"
	"slices"
	"testing"

	"hayward/api"
	"hayward/file"
)

// ends: numbers of no file, no record and no operation; some of them would be, if they were cut to a byte or to 32 bits.
var ends = []int{math.MinInt, math.MinInt + 1, -1 << 32, -256, -64, -2, -1, 256, 257, 512, 1 << 16, 1 << 32, 1<<32 + 1, 1 << 40, math.MaxInt - 1, math.MaxInt}

// made: a file that may be, of records that are not alike.
func made(t *testing.T, perm, records int) api.File {
	t.Helper()
	f, e := file.New(perm, records)
	if e != api.OK {
		t.Fatal(perm, records, e)
	}
	for i := 1; i <= records; i++ {
		f.Recs[i] = api.Rec{byte(i), byte(perm), byte(records), 254}
	}
	return f
}

// with: a Store of a list's files.
func with(t *testing.T, list ...api.Named) *Store {
	t.Helper()
	s := New()
	for _, x := range list {
		if e := s.Add(x.N, x.File); e != api.OK {
			t.Fatalf("Add(%d) is %v", x.N, e)
		}
	}
	return s
}

// holds: a Store has a list's files, no other ones, and has denied so often.
func holds(t *testing.T, what string, s *Store, list []api.Named, denied int) {
	t.Helper()
	if !slices.EqualFunc(s.Files(), list, sameNamed) {
		t.Fatalf("%s: Files is %v, not %v", what, s.Files(), list)
	}
	if s.Denied() != denied {
		t.Fatalf("%s: Denied is %d, not %d", what, s.Denied(), denied)
	}
	for _, x := range list {
		for i, r := range x.File.Recs {
			if w, ok := s.Get(x.N, i); w != r || !ok {
				t.Fatalf("%s: Get(%d, %d) is %v, %v, not %v", what, x.N, i, w, ok, r)
			}
		}
	}
}

func sameNamed(a, b api.Named) bool { return a.N == b.N && file.Same(a.File, b.File) }

// P10.1: a Store that is new has nothing, and so has one that New has not made.
func TestNew(t *testing.T) {
	for _, s := range []*Store{New(), new(Store), New().Copy(), new(Store).Copy()} {
		if s == nil {
			t.Fatal("there is no Store")
		}
		holds(t, "new", s, nil, 0)
		for n := -1; n <= 64; n++ {
			if w, ok := s.Get(n, 0); ok || w != (api.Rec{}) || s.Set(n, 1, api.Rec{1}) {
				t.Error(n, w, ok)
			}
			want := api.ErrNone
			if n < 0 || n > 63 {
				want = api.ErrArg
			}
			if w, e := s.Do(api.Addr{File: n}, api.Rec{1}); e != want || w != (api.Rec{}) {
				t.Error(n, w, e)
			}
		}
		f := made(t, 7, 2)
		if e := s.Add(3, f); e != api.OK {
			t.Error(e)
		}
		holds(t, "with a file", s, []api.Named{{N: 3, File: f}}, 0)
	}
	a, b := New(), New()
	a.Add(1, made(t, 1, 1))
	holds(t, "another one", b, nil, 0)
}

// P10.1, P10.2, P10.3: a Store that is nil.
func TestNil(t *testing.T) {
	var s *Store
	for _, n := range append([]int{0, 1, 5, 63, 64}, ends...) {
		if e := s.Add(n, made(t, 7, 2)); e != api.ErrArg {
			t.Error("Add", n, e)
		}
		if e := s.Add(n, api.File{}); e != api.ErrArg {
			t.Error("Add nothing", n, e)
		}
		if w, e := s.Do(api.Addr{Op: 1, File: n, Rec: 1}, api.Rec{1, 2, 3, 4}); e != api.ErrArg || w != (api.Rec{}) {
			t.Error("Do", n, w, e)
		}
		if s.Set(n, 1, api.Rec{1}) || s.Set(1, n, api.Rec{1}) {
			t.Error("Set", n)
		}
		if w, ok := s.Get(n, 0); ok || w != (api.Rec{}) {
			t.Error("Get", n, w, ok)
		}
	}
	if s.Denied() != 0 || len(s.Files()) != 0 || s.Copy() != nil {
		t.Error(s.Denied(), s.Files(), s.Copy())
	}
}

// P10.1: all numbers that a file may have, and those around them.
func TestAdd(t *testing.T) {
	s := New()
	var list []api.Named
	for n := -3; n <= 70; n++ {
		f := made(t, (n+8)%8, (n+3)%5)
		want := api.OK
		if n < 0 || n > 63 {
			want = api.ErrArg
		} else {
			list = append(list, api.Named{N: n, File: f})
		}
		if e := s.Add(n, f); e != want {
			t.Errorf("Add(%d) is %v, not %v", n, e, want)
		}
		holds(t, "added", s, list, 0)
	}
	for _, n := range ends {
		if e := s.Add(n, made(t, 7, 1)); e != api.ErrArg {
			t.Errorf("Add(%d) is %v", n, e)
		}
	}
	holds(t, "added", s, list, 0)
	// All of them are there: each one once.
	for n := range 64 {
		if e := s.Add(n, made(t, 7, 9)); e != api.ErrState {
			t.Errorf("Add(%d) once more is %v", n, e)
		}
	}
	holds(t, "added", s, list, 0)
}

// P10.1: files that may be, files that may not be, and which error is told where several apply.
func TestAddErrors(t *testing.T) {
	f := made(t, 7, 2)
	torn := made(t, 7, 2)
	torn.Recs[0][3]++
	over := api.File{Perm: 7, Recs: make([]api.Rec, 257)}
	over.Recs[0] = api.Rec{0, 7, 165, 162}
	full := made(t, 7, 255)
	for _, c := range []struct {
		name string
		n    int
		f    api.File
		want api.Errno
	}{
		{"nothing is right", -1, api.File{}, api.ErrArg},
		{"a number too great, no file", 64, torn, api.ErrArg},
		{"a number that is there, no file", 5, api.File{}, api.ErrForm},
		{"a number that is there, a torn header", 5, torn, api.ErrForm},
		{"a number that is there", 5, f, api.ErrState},
		{"a number that is there, another file", 5, full, api.ErrState},
		{"no file", 6, api.File{}, api.ErrForm},
		{"permissions alone", 6, api.File{Perm: 7}, api.ErrForm},
		{"a torn header", 6, torn, api.ErrForm},
		{"other permissions than the header's", 6, api.File{Perm: 3, Recs: f.Recs}, api.ErrForm},
		{"too many records", 6, over, api.ErrForm},
	} {
		s := with(t, api.Named{N: 5, File: f})
		if e := s.Add(c.n, c.f); e != c.want {
			t.Errorf("%s: Add is %v", c.name, e)
		}
		holds(t, c.name, s, []api.Named{{N: 5, File: f}}, 0)
	}
	least := made(t, 0, 0)
	s := with(t, api.Named{N: 6, File: full}, api.Named{N: 5, File: least})
	holds(t, "the least file and the greatest one", s, []api.Named{{N: 5, File: least}, {N: 6, File: full}}, 0)
}

// P10.1: files come by rising numbers, in whatever order they were added.
func TestFiles(t *testing.T) {
	random := rand.New(rand.NewSource(10))
	for range 200 {
		s, some := New(), random.Perm(64)[:random.Intn(65)]
		var list []api.Named
		for _, n := range some {
			x := api.Named{N: n, File: made(t, n%8, n%7)}
			list = append(list, x)
			if e := s.Add(x.N, x.File); e != api.OK {
				t.Fatal(n, e)
			}
		}
		slices.SortFunc(list, func(a, b api.Named) int { return a.N - b.N })
		for range 3 {
			holds(t, "Files", s, list, 0)
			holds(t, "Files of a copy", s.Copy(), list, 0)
		}
	}
}

// P10.2: the document's example, what each operation does, and each error.
func TestDo(t *testing.T) {
	v := api.Rec{1, 2, 3, 4}
	f := made(t, 7, 2)
	for _, c := range []struct {
		name   string
		a      api.Addr
		want   api.Rec
		e      api.Errno
		denied int
	}{
		{"a file that is not there", api.Addr{File: 4, Rec: 1}, api.Rec{}, api.ErrNone, 0},
		{"a file that is not there, its header", api.Addr{File: 6}, api.Rec{}, api.ErrNone, 0},
		{"a file that is not there, no record", api.Addr{Op: 2, File: 63, Rec: 255}, api.Rec{}, api.ErrNone, 0},
		{"no operation", api.Addr{Op: 3, File: 5, Rec: 1}, api.Rec{}, api.ErrArg, 0},
		{"an operation below all", api.Addr{Op: -1, File: 5, Rec: 1}, api.Rec{}, api.ErrArg, 0},
		{"no operation, a file that is not there", api.Addr{Op: 3, File: 4, Rec: 1}, api.Rec{}, api.ErrArg, 0},
		{"no file number", api.Addr{File: 64, Rec: 1}, api.Rec{}, api.ErrArg, 0},
		{"a file number below all", api.Addr{File: -1, Rec: 1}, api.Rec{}, api.ErrArg, 0},
		{"no record number", api.Addr{File: 5, Rec: 256}, api.Rec{}, api.ErrArg, 0},
		{"a record number below all", api.Addr{File: 5, Rec: -1}, api.Rec{}, api.ErrArg, 0},
		{"no record number, no permission", api.Addr{Op: 1, File: 0, Rec: 256}, api.Rec{}, api.ErrArg, 0},
		{"no record", api.Addr{File: 5, Rec: 3}, api.Rec{}, api.ErrRange, 0},
		{"no record, no permission", api.Addr{Op: 1, File: 0, Rec: 2}, api.Rec{}, api.ErrRange, 0},
		{"the last record number", api.Addr{Op: 2, File: 5, Rec: 255}, api.Rec{}, api.ErrRange, 0},
		{"not to be read", api.Addr{File: 0, Rec: 1}, api.Rec{}, api.ErrPerm, 1},
		{"not to be written", api.Addr{Op: 1, File: 0, Rec: 1}, api.Rec{}, api.ErrPerm, 1},
		{"not to be executed", api.Addr{Op: 2, File: 0, Rec: 1}, api.Rec{}, api.ErrPerm, 1},
		{"the header is not written", api.Addr{Op: 1, File: 5}, api.Rec{}, api.ErrPerm, 1},
		{"the header is not executed", api.Addr{Op: 2, File: 5}, api.Rec{}, api.ErrPerm, 1},
		{"a shut file's header", api.Addr{File: 0}, api.Rec{1, 0, 165, 164}, api.OK, 0},
		{"read the header", api.Addr{File: 5}, api.Rec{2, 7, 165, 160}, api.OK, 0},
		{"read a record", api.Addr{File: 5, Rec: 2}, api.Rec{2, 7, 2, 254}, api.OK, 0},
		{"write a record", api.Addr{Op: 1, File: 5, Rec: 2}, v, api.OK, 0},
		{"execute a record", api.Addr{Op: 2, File: 5, Rec: 2}, api.Rec{2, 7, 2, 255}, api.OK, 0},
	} {
		list := []api.Named{{N: 0, File: made(t, 0, 1)}, {N: 5, File: made(t, 7, 2)}, {N: 7, File: f}}
		s := with(t, list...)
		if w, e := s.Do(c.a, v); w != c.want || e != c.e {
			t.Errorf("%s: Do is %v, %v", c.name, w, e)
		}
		for _, x := range list {
			if c.e == api.OK && x.N == c.a.File {
				x.File.Recs[c.a.Rec] = c.want
			}
		}
		holds(t, c.name, s, list, c.denied)
	}
}

// P10.2: each operation goes on from what the one ahead has left; v counts for OpWrite alone.
func TestDoOn(t *testing.T) {
	s := with(t, api.Named{N: 9, File: made(t, 7, 1)})
	full := api.Rec{255, 255, 255, 254}
	for i, c := range []struct {
		op      int
		v, want api.Rec
	}{
		{api.OpWrite, full, full},
		{api.OpRead, api.Rec{5}, full},
		{api.OpExec, api.Rec{5}, api.Rec{255, 255, 255, 255}},
		{api.OpRead, api.Rec{}, api.Rec{255, 255, 255, 255}},
		{api.OpExec, api.Rec{}, api.Rec{}},
		{api.OpExec, full, api.Rec{0, 0, 0, 1}},
		{api.OpWrite, api.Rec{}, api.Rec{}},
		{api.OpRead, full, api.Rec{}},
	} {
		if w, e := s.Do(api.Addr{Op: c.op, File: 9, Rec: 1}, c.v); w != c.want || e != api.OK {
			t.Errorf("%d: Do is %v, %v", i, w, e)
		}
		if w, ok := s.Get(9, 1); w != c.want || !ok {
			t.Errorf("%d: Get is %v, %v", i, w, ok)
		}
	}
}

// P10.2: addresses whose numbers are far from all that may be.
func TestDoWrong(t *testing.T) {
	f := made(t, 0, 255)
	s := with(t, api.Named{N: 0, File: f}, api.Named{N: 1, File: f})
	for _, n := range ends {
		for _, a := range []api.Addr{{Op: n}, {File: n}, {Rec: n}, {Op: n, File: n, Rec: n}, {Op: 1, File: 2, Rec: n}, {Op: n, File: 1, Rec: 1}} {
			if w, e := s.Do(a, api.Rec{1}); w != (api.Rec{}) || e != api.ErrArg {
				t.Errorf("Do(%v) is %v, %v", a, w, e)
			}
		}
	}
	holds(t, "wrong addresses", s, []api.Named{{N: 0, File: f}, {N: 1, File: f}}, 0)
}

// P10.2: ErrPerm alone is counted, each time.
func TestDenied(t *testing.T) {
	s := with(t, api.Named{N: 1, File: made(t, api.MayRead, 1)})
	for i := 1; i <= 1000; i++ {
		if _, e := s.Do(api.Addr{Op: 1 + i%2, File: 1, Rec: i / 2 % 2}, api.Rec{}); e != api.ErrPerm || s.Denied() != i {
			t.Fatal(i, e, s.Denied())
		}
		s.Do(api.Addr{File: 1, Rec: 1}, api.Rec{})
		s.Do(api.Addr{Op: 1, File: 1, Rec: 2}, api.Rec{})
		s.Do(api.Addr{Op: 1, File: 2, Rec: 1}, api.Rec{})
		s.Do(api.Addr{Op: 3, File: 1, Rec: 1}, api.Rec{})
		s.Set(1, 0, api.Rec{})
		s.Set(1, 1, api.Rec{})
		s.Get(1, 1)
		s.Add(1, made(t, 0, 1))
		s.Files()
		if s.Denied() != i {
			t.Fatal(i, s.Denied())
		}
	}
}

// P10.2: why a file refuses is wrapped, and told as it is.
func TestFault(t *testing.T) {
	s := with(t, api.Named{N: 12, File: made(t, 0, 1)})
	for _, c := range []struct {
		a    api.Addr
		want api.Errno
		text string
	}{
		{api.Addr{File: 12, Rec: 1}, api.ErrPerm, "file 12: permission"},
		{api.Addr{File: 12, Rec: 2}, api.ErrRange, "file 12: range"},
		{api.Addr{File: 3, Rec: 2}, api.ErrNone, "file 3: none"},
	} {
		_, err := s.ask(c.a, api.Rec{})
		if err == nil || !errors.Is(err, c.want) || err.Error() != c.text || number(err) != c.want {
			t.Errorf("%v is %v", c.a, err)
		}
	}
}

// P10.3: all permissions with all records, and those around them.
func TestSetGet(t *testing.T) {
	for perm := range 8 {
		for _, records := range []int{0, 1, 2, 254, 255} {
			list := []api.Named{{N: 0, File: made(t, perm, records)}, {N: 63, File: made(t, perm, records)}}
			s := with(t, list...)
			for rec := -3; rec <= 260; rec++ {
				there := rec >= 0 && rec <= records
				v := api.Rec{byte(rec), 9, byte(perm), 9}
				w, ok := s.Get(63, rec)
				if ok != there || there && w != list[1].File.Recs[rec] || !there && w != (api.Rec{}) {
					t.Fatalf("Perm %d, %d records: Get(%d) is %v, %v", perm, records, rec, w, ok)
				}
				if ok := s.Set(63, rec, v); ok != (there && rec != 0) {
					t.Fatalf("Perm %d, %d records: Set(%d) is %v", perm, records, rec, ok)
				} else if ok {
					list[1].File.Recs[rec] = v
				}
			}
			holds(t, "Set", s, list, 0)
		}
	}
}

// P10.3: files and records that are not there.
func TestSetGetWrong(t *testing.T) {
	f := made(t, 7, 255)
	s := with(t, api.Named{N: 0, File: f}, api.Named{N: 1, File: f})
	none := func(n, rec int) {
		t.Helper()
		if w, ok := s.Get(n, rec); ok || w != (api.Rec{}) {
			t.Errorf("Get(%d, %d) is %v, %v", n, rec, w, ok)
		}
		if s.Set(n, rec, api.Rec{1}) {
			t.Errorf("Set(%d, %d)", n, rec)
		}
	}
	for n := -3; n <= 66; n++ {
		if n != 0 && n != 1 {
			none(n, 0)
			none(n, 1)
		}
	}
	for _, n := range ends {
		none(n, 0)
		none(n, 1)
		none(0, n)
		none(n, n)
	}
	holds(t, "wrong numbers", s, []api.Named{{N: 0, File: f}, {N: 1, File: f}}, 0)
}

// P10.1: what is done with a Store is not done with its copy, nor the other way.
func TestCopy(t *testing.T) {
	was := []api.Named{{N: 2, File: made(t, 7, 2)}, {N: 4, File: made(t, 1, 1)}}
	change := func(s *Store) {
		s.Do(api.Addr{Op: 1, File: 2, Rec: 1}, api.Rec{7, 7, 7, 7})
		s.Do(api.Addr{Op: 2, File: 2, Rec: 2}, api.Rec{})
		s.Do(api.Addr{Op: 1, File: 4, Rec: 1}, api.Rec{})
		s.Set(4, 1, api.Rec{8, 8, 8, 8})
		s.Add(3, made(t, 3, 3))
	}
	then := []api.Named{{N: 2, File: made(t, 7, 2)}, {N: 3, File: made(t, 3, 3)}, {N: 4, File: made(t, 1, 1)}}
	then[0].File.Recs[1] = api.Rec{7, 7, 7, 7}
	then[0].File.Recs[2] = api.Rec{2, 7, 2, 255}
	then[2].File.Recs[1] = api.Rec{8, 8, 8, 8}
	for which := range 2 {
		s := with(t, was...)
		s.Do(api.Addr{Op: 2, File: 4, Rec: 1}, api.Rec{})
		c := s.Copy()
		holds(t, "the Store", s, was, 1)
		holds(t, "its copy", c, was, 1)
		both := []*Store{s, c}
		change(both[which])
		holds(t, "the one that was changed", both[which], then, 2)
		holds(t, "the other one", both[1-which], was, 1)
		holds(t, "a copy of the one that was changed", both[which].Copy(), then, 2)
	}
}

// fill: writes over all of a list, its spare room too.
func fill(list []api.Rec) {
	for i := range list[:cap(list)] {
		list[:cap(list)][i] = api.Rec{6, 6, 6, 6}
	}
}

// P10.1, P10.2, P10.3: what is handed in is neither changed nor kept, and what is answered is nobody else's.
func TestMemory(t *testing.T) {
	f := made(t, 7, 2)
	room := append(slices.Clone(f.Recs), slices.Repeat([]api.Rec{{9, 9, 9, 9}}, 8)...)
	was := slices.Clone(room)
	s := with(t, api.Named{N: 1, File: api.File{Perm: 7, Recs: room[:3]}}, api.Named{N: 2, File: api.File{Perm: 7, Recs: room[:3]}})
	v := api.Rec{1, 2, 3, 4}
	s.Set(1, 1, v)
	s.Do(api.Addr{Op: 2, File: 1, Rec: 2}, v)
	s.Do(api.Addr{Op: 1, File: 2, Rec: 2}, v)
	if !slices.Equal(room, was) {
		t.Error("what was handed in is changed")
	}
	want := []api.Named{{N: 1, File: made(t, 7, 2)}, {N: 2, File: made(t, 7, 2)}}
	want[0].File.Recs[1], want[0].File.Recs[2], want[1].File.Recs[2] = v, api.Rec{2, 7, 2, 255}, v
	fill(room)
	holds(t, "what was handed in is written over", s, want, 0)
	kept := s.Files()
	for _, x := range s.Files() {
		fill(x.File.Recs)
	}
	all := s.Files()
	clear(all[:cap(all)])
	holds(t, "what was answered is written over", s, want, 0)
	if !slices.EqualFunc(kept, want, sameNamed) {
		t.Error("two answers are one memory")
	}
	s.Set(1, 1, api.Rec{})
	s.Do(api.Addr{Op: 2, File: 2, Rec: 1}, v)
	if !slices.EqualFunc(kept, want, sameNamed) {
		t.Error("an answer is the Store's memory")
	}
}

// model: what the document says that a Store has.
type model struct {
	files  map[int]api.File
	denied int
}

// due: what the document says that Do answers; and it is done.
func (m *model) due(a api.Addr, v api.Rec) (api.Rec, api.Errno) {
	if a.Op < 0 || a.Op > 2 || a.File < 0 || a.File > 63 || a.Rec < 0 || a.Rec > 255 {
		return api.Rec{}, api.ErrArg
	}
	f, ok := m.files[a.File]
	switch {
	case !ok:
		return api.Rec{}, api.ErrNone
	case a.Rec >= len(f.Recs):
		return api.Rec{}, api.ErrRange
	case a.Rec == 0 && a.Op != 0, a.Rec != 0 && f.Perm&(1<<a.Op) == 0:
		m.denied++
		return api.Rec{}, api.ErrPerm
	case a.Op == api.OpWrite:
		f.Recs[a.Rec] = v
	case a.Op == api.OpExec:
		binary.BigEndian.PutUint32(f.Recs[a.Rec][:], binary.BigEndian.Uint32(f.Recs[a.Rec][:])+1)
	}
	return f.Recs[a.Rec], api.OK
}

// P10.1, P10.2, P10.3: many calls in one, against the model.
func TestModel(t *testing.T) {
	random := rand.New(rand.NewSource(101))
	for range 60 {
		s, m := New(), &model{files: map[int]api.File{}}
		for range 400 {
			n, rec, v := random.Intn(68)-2, random.Intn(5)-1, api.Rec{byte(random.Intn(256)), 255, 255, byte(random.Intn(256))}
			f, there := m.files[n]
			has := there && rec >= 0 && rec < len(f.Recs)
			switch random.Intn(5) {
			case 0:
				g := made(t, random.Intn(8), random.Intn(4))
				want := api.OK
				if n < 0 || n > 63 {
					want = api.ErrArg
				} else if there {
					want = api.ErrState
				}
				if e := s.Add(n, g); e != want {
					t.Fatalf("Add(%d) is %v, not %v", n, e, want)
				} else if e == api.OK {
					m.files[n] = g
				}
			case 1:
				if ok := s.Set(n, rec, v); ok != (has && rec != 0) {
					t.Fatalf("Set(%d, %d) is %v", n, rec, ok)
				} else if ok {
					f.Recs[rec] = v
				}
			case 2:
				if w, ok := s.Get(n, rec); ok != has || ok && w != f.Recs[rec] || !ok && w != (api.Rec{}) {
					t.Fatalf("Get(%d, %d) is %v, %v", n, rec, w, ok)
				}
			case 3:
				a := api.Addr{Op: random.Intn(5) - 1, File: n, Rec: rec}
				want, due := m.due(a, v)
				if w, e := s.Do(a, v); w != want || e != due {
					t.Fatalf("Do(%v) is %v, %v, not %v, %v", a, w, e, want, due)
				}
			case 4:
				s = s.Copy()
			}
		}
		var list []api.Named
		for n := range 64 {
			if f, ok := m.files[n]; ok {
				list = append(list, api.Named{N: n, File: f})
			}
		}
		holds(t, "many calls", s, list, m.denied)
	}
}
