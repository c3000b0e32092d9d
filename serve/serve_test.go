package serve

import (
	"encoding/binary"
	"errors"
	"maps"
	"math"
	"math/rand"
	"slices"
	"testing"

	"hayward/api"
	"hayward/file"
	"hayward/ifs"
)

// ends: numbers that are no name and no part of an address; some of them would be, if they were cut to a byte or to 32 bits.
var ends = []int{math.MinInt, math.MinInt + 1, -1 << 32, -1<<32 + 5, -256, -251, -1, 256, 257, 261, 1 << 16, 1<<16 + 5, 1 << 32, 1<<32 + 5, math.MaxInt - 1, math.MaxInt}

// kept: the records of each of a node's files.
func kept() []api.Rec { return []api.Rec{{0, 0, 0, 9}, {1, 2, 255, 255}, {255, 255, 255, 255}} }

// node: a store of files 0 to 7, each of the permissions that are its number, and of file 63, that is as file 7.
func node(t *testing.T) *ifs.Store {
	t.Helper()
	s := ifs.New()
	for _, n := range []int{0, 1, 2, 3, 4, 5, 6, 7, 63} {
		f, e := file.New(min(n, 7), len(kept()))
		if e != api.OK {
			t.Fatal(n, e)
		}
		copy(f.Recs[1:], kept())
		if e := s.Add(n, f); e != api.OK {
			t.Fatal(n, e)
		}
	}
	return s
}

// same: have two stores the same files, and refused as often?
func same(a, b *ifs.Store) bool {
	return a != nil && b != nil && a.Denied() == b.Denied() && slices.EqualFunc(a.Files(), b.Files(), func(x, y api.Named) bool {
		return x.N == y.N && file.Same(x.File, y.File)
	})
}

// asks: the bytes of any three, right or not, with their check byte.
func asks(name, first, second byte) [4]byte {
	return [4]byte{name, first, second, 0x5A ^ name ^ first ^ second}
}

// dataOf: a record with its check byte.
func dataOf(v api.Rec) [5]byte {
	n := binary.BigEndian.Uint32(v[:])
	return [5]byte{v[0], v[1], v[2], v[3], 0x5A ^ byte(n>>24) ^ byte(n>>16) ^ byte(n>>8) ^ byte(n)}
}

// due: what becomes of a store of node's files by an address, what is answered then, and whether something is; by the words of chapters 8 to 10.
func due(s *ifs.Store, a api.Addr, v api.Rec) (then *ifs.Store, now api.Rec, ok bool) {
	then = s.Copy()
	now, e := then.Do(a, v)
	return then, now, e == api.OK
}

// P16.1: the document's example, and others that are written out.
func TestAsk(t *testing.T) {
	for _, c := range []struct {
		name int
		a    api.Addr
		want [4]byte
	}{
		{5, api.Addr{File: 2, Rec: 1}, [4]byte{5, 2, 1, 92}},
		{1, api.Addr{}, [4]byte{1, 0, 0, 91}},
		{90, api.Addr{}, [4]byte{90, 0, 0, 0}},
		{254, api.Addr{Op: api.OpExec, File: 63, Rec: 255}, [4]byte{254, 191, 255, 228}},
		{5, api.Addr{Op: api.OpWrite, File: 3, Rec: 1}, [4]byte{5, 67, 1, 29}},
		{128, api.Addr{Op: api.OpExec, Rec: 128}, [4]byte{128, 128, 128, 218}},
	} {
		if b, e := Ask(c.name, c.a); b != c.want || e != api.OK {
			t.Errorf("Ask(%d, %v) is %v, %v", c.name, c.a, b, e)
		}
	}
}

// P16.1: all names, those around them too, with addresses that may be, and with some that may not.
func TestAskAll(t *testing.T) {
	for name := -2; name <= 260; name++ {
		for op := -1; op <= 3; op++ {
			for _, n := range []int{-1, 0, 1, 40, 63, 64} {
				for _, rec := range []int{-1, 0, 1, 77, 128, 255, 256} {
					var want [4]byte
					e := api.ErrArg
					if name >= 1 && name <= 254 && op >= 0 && op <= 2 && n >= 0 && n <= 63 && rec >= 0 && rec <= 255 {
						want, e = asks(byte(name), byte(64*op+n), byte(rec)), api.OK
					}
					if b, is := Ask(name, api.Addr{Op: op, File: n, Rec: rec}); b != want || is != e {
						t.Fatalf("Ask(%d, %d %d %d) is %v, %v, not %v, %v", name, op, n, rec, b, is, want, e)
					}
				}
			}
		}
	}
}

// P16.1: numbers far from all that may be.
func TestAskWrong(t *testing.T) {
	for _, n := range ends {
		for _, a := range []api.Addr{{}, {Op: 1, File: 3, Rec: 1}, {Op: n}, {File: n, Rec: n}} {
			if b, e := Ask(n, a); b != [4]byte{} || e != api.ErrArg {
				t.Errorf("Ask(%d, %v) is %v, %v", n, a, b, e)
			}
		}
		for _, a := range []api.Addr{{Op: n}, {File: n}, {Rec: n}, {Op: n, File: n, Rec: n}, {Op: 1, File: -n, Rec: n}} {
			if b, e := Ask(5, a); b != [4]byte{} || e != api.ErrArg {
				t.Errorf("Ask of %v is %v, %v", a, b, e)
			}
		}
	}
}

// P16.1: records as bytes, and taken back; none, if one byte or more is another one.
func TestData(t *testing.T) {
	for _, c := range []struct {
		v    api.Rec
		want [5]byte
	}{
		{api.Rec{}, [5]byte{0, 0, 0, 0, 90}},
		{api.Rec{1, 2, 4, 8}, [5]byte{1, 2, 4, 8, 85}},
		{api.Rec{90, 0, 0, 0}, [5]byte{90, 0, 0, 0, 0}},
		{api.Rec{255, 255, 255, 255}, [5]byte{255, 255, 255, 255, 90}},
		{api.Rec{0, 0, 0, 128}, [5]byte{0, 0, 0, 128, 218}},
		{api.Rec{1, 2, 3, 4}, [5]byte{1, 2, 3, 4, 94}},
	} {
		if b := Data(c.v); b != c.want {
			t.Errorf("Data(%v) is %v", c.v, b)
		}
		if v, e := Open(c.want); v != c.v || e != api.OK {
			t.Errorf("Open(%v) is %v, %v", c.want, v, e)
		}
		for i := range 5 {
			for m := 1; m < 256; m++ {
				b := c.want
				b[i] ^= byte(m)
				if v, e := Open(b); v != (api.Rec{}) || e != api.ErrCheck {
					t.Fatalf("Open(%v) is %v, %v", b, v, e)
				}
			}
		}
	}
}

// P16.1: any five bytes: of all last ones one is right.
func TestOpen(t *testing.T) {
	random := rand.New(rand.NewSource(16))
	for range 2000 {
		var v api.Rec
		random.Read(v[:])
		want := dataOf(v)
		if b := Data(v); b != want {
			t.Fatalf("Data(%v) is %v", v, b)
		}
		for last := range 256 {
			b := want
			b[4] = byte(last)
			w, e := Open(b)
			if b == want && (w != v || e != api.OK) || b != want && (w != (api.Rec{}) || e != api.ErrCheck) {
				t.Fatalf("Open(%v) is %v, %v", b, w, e)
			}
		}
	}
}

// silent: a node answers nothing, and a store has refused so much more often, and is else as it was.
func silent(t *testing.T, what string, s *ifs.Store, name int, ask [4]byte, data [5]byte, denied int) {
	t.Helper()
	was := s.Copy()
	if b, ok := Serve(s, name, ask, data); b != [5]byte{} || ok {
		t.Errorf("%s: Serve is %v, %v", what, b, ok)
	}
	if s == nil {
		return
	}
	if s.Denied() != was.Denied()+denied {
		t.Errorf("%s: Denied is %d, not %d more than %d", what, s.Denied(), denied, was.Denied())
	}
	if !slices.EqualFunc(s.Files(), was.Files(), func(x, y api.Named) bool { return x.N == y.N && file.Same(x.File, y.File) }) {
		t.Errorf("%s: the store is %v", what, s.Files())
	}
}

// P16.2: each operation, written out.
func TestServe(t *testing.T) {
	v := api.Rec{7, 8, 9, 10}
	for _, c := range []struct {
		what string
		ask  [4]byte
		data [5]byte
		want [5]byte
		left api.Rec
	}{
		{"read", asks(5, 7, 1), dataOf(v), [5]byte{0, 0, 0, 9, 83}, api.Rec{0, 0, 0, 9}},
		{"read, and no data", asks(5, 7, 1), [5]byte{}, [5]byte{0, 0, 0, 9, 83}, api.Rec{0, 0, 0, 9}},
		{"write", asks(5, 71, 1), dataOf(v), [5]byte{7, 8, 9, 10, 86}, v},
		{"write bytes 0", asks(5, 71, 1), dataOf(api.Rec{}), [5]byte{0, 0, 0, 0, 90}, api.Rec{}},
		{"execute", asks(5, 135, 1), dataOf(v), [5]byte{0, 0, 0, 10, 80}, api.Rec{0, 0, 0, 10}},
		{"execute, and no data", asks(5, 135, 1), [5]byte{9}, [5]byte{0, 0, 0, 10, 80}, api.Rec{0, 0, 0, 10}},
		{"read the header", asks(5, 7, 0), [5]byte{}, [5]byte{3, 7, 165, 161, 90}, api.Rec{0, 0, 0, 9}},
		{"read the header of a shut file", asks(5, 0, 0), [5]byte{}, [5]byte{3, 0, 165, 166, 90}, api.Rec{0, 0, 0, 9}},
	} {
		s := node(t)
		want := node(t)
		want.Set(7, 1, c.left)
		if b, ok := Serve(s, 5, c.ask, c.data); b != c.want || !ok {
			t.Errorf("%s: Serve is %v, %v", c.what, b, ok)
		}
		if !same(s, want) {
			t.Errorf("%s: the store is %v", c.what, s.Files())
		}
	}
}

// P16.2: why a node answers nothing; what is not let is counted where it came to Do alone.
func TestServeSilent(t *testing.T) {
	v := api.Rec{7, 8, 9, 10}
	torn := [5]byte{7, 8, 9, 10, 87}
	for _, c := range []struct {
		what   string
		s      *ifs.Store
		name   int
		ask    [4]byte
		data   [5]byte
		denied int
	}{
		{"no store", nil, 5, asks(5, 7, 1), dataOf(v), 0},
		{"no store, to write", nil, 5, asks(5, 71, 1), dataOf(v), 0},
		{"a store that nobody made", &ifs.Store{}, 5, asks(5, 7, 1), dataOf(v), 0},
		{"no file", node(t), 5, asks(5, 9, 1), dataOf(v), 0},
		{"no record", node(t), 5, asks(5, 7, 4), dataOf(v), 0},
		{"no record to write", node(t), 5, asks(5, 71, 255), dataOf(v), 0},
		{"not to be read", node(t), 5, asks(5, 6, 1), dataOf(v), 1},
		{"not to be written", node(t), 5, asks(5, 64+5, 1), dataOf(v), 1},
		{"not to be executed", node(t), 5, asks(5, 128+3, 1), dataOf(v), 1},
		{"not to be executed, torn data", node(t), 5, asks(5, 128+3, 1), torn, 1},
		{"the header, to write", node(t), 5, asks(5, 71, 0), dataOf(v), 1},
		{"the header, to execute", node(t), 5, asks(5, 135, 0), dataOf(v), 1},
		{"torn data", node(t), 5, asks(5, 71, 1), torn, 0},
		{"torn data of what is not to be written", node(t), 5, asks(5, 69, 1), torn, 0},
		{"no data", node(t), 5, asks(5, 71, 1), [5]byte{}, 0},
		{"no operation", node(t), 5, asks(5, 192, 1), dataOf(v), 0},
		{"no operation, the last one", node(t), 5, asks(5, 255, 255), dataOf(v), 0},
		{"another name", node(t), 5, asks(6, 7, 1), dataOf(v), 0},
		{"another name, not to be read", node(t), 5, asks(6, 6, 1), dataOf(v), 0},
		{"nothing", node(t), 0, [4]byte{}, [5]byte{}, 0},
		{"a torn ask of what is not to be read", node(t), 5, [4]byte{5, 6, 1, 0}, dataOf(v), 0},
	} {
		silent(t, c.what, c.s, c.name, c.ask, c.data, c.denied)
	}
}

// P16.2: all check bytes of what is asked, all names, and all first bytes of addresses.
func TestServeBytes(t *testing.T) {
	v := api.Rec{7, 8, 9, 10}
	for n := range 256 {
		if ask := [4]byte{5, 135, 1, byte(n)}; ask != asks(5, 135, 1) {
			silent(t, "check byte", node(t), 5, ask, dataOf(v), 0)
		}
		if n != 5 {
			silent(t, "name", node(t), n, asks(5, 135, 1), dataOf(v), 0)
			silent(t, "asked name", node(t), 5, asks(byte(n), 135, 1), dataOf(v), 0)
		}
		if n >= 192 {
			silent(t, "address", node(t), 5, asks(5, byte(n), 1), dataOf(v), 0)
		}
	}
	for _, n := range ends {
		silent(t, "name", node(t), n, asks(byte(n), 7, 1), dataOf(v), 0)
		silent(t, "name", node(t), n, asks(5, 7, 1), dataOf(v), 0)
	}
	// Whose name is a byte is asked by that, be it one that Ask has or not.
	for name := range 256 {
		if b, ok := Serve(node(t), name, asks(byte(name), 7, 1), [5]byte{}); b != [5]byte{0, 0, 0, 9, 83} || !ok {
			t.Errorf("Serve of %d is %v, %v", name, b, ok)
		}
	}
}

// P16.2: all operations, with all files and records, against chapter 10's Do.
func TestServeAll(t *testing.T) {
	v := api.Rec{77, 0, 255, 3}
	for op := range 3 {
		for n := range 64 {
			for _, rec := range []int{0, 1, 2, 3, 4, 255} {
				s := node(t)
				then, now, ok := due(s, api.Addr{Op: op, File: n, Rec: rec}, v)
				var want [5]byte
				if ok {
					want = dataOf(now)
				}
				if b, is := Serve(s, 200, asks(200, byte(64*op+n), byte(rec)), dataOf(v)); b != want || is != ok {
					t.Fatalf("Serve of %d %d %d is %v, %v, not %v, %v", op, n, rec, b, is, want, ok)
				}
				if !same(s, then) {
					t.Fatalf("Serve of %d %d %d leaves %v", op, n, rec, s.Files())
				}
			}
		}
	}
}

// P16.2: why a node is silent is wrapped, with its name.
func TestSilence(t *testing.T) {
	for _, c := range []struct {
		ask  [4]byte
		want api.Errno
		text string
	}{
		{[4]byte{5, 7, 1, 0}, api.ErrCheck, "node 5 is silent: check"},
		{asks(6, 7, 1), api.ErrNone, "node 5 is silent: none"},
		{asks(5, 192, 1), api.ErrForm, "node 5 is silent: form"},
		{asks(5, 71, 1), api.ErrCheck, "node 5 is silent: check"},
		{asks(5, 6, 1), api.ErrPerm, "node 5 is silent: permission"},
		{asks(5, 7, 4), api.ErrRange, "node 5 is silent: range"},
	} {
		b, err := reply(node(t), 5, c.ask, [5]byte{})
		var why silence
		if b != [5]byte{} || err == nil || !errors.As(err, &why) || why.name != 5 || !errors.Is(err, c.want) || err.Error() != c.text {
			t.Errorf("%v: %v, %v", c.ask, b, err)
		}
	}
}

// P16.3: whole rounds, written out; what is left in record 1 of file 7.
func TestTry(t *testing.T) {
	v, was := api.Rec{7, 8, 9, 10}, api.Rec{0, 0, 0, 9}
	read, write, exec := api.Addr{File: 7, Rec: 1}, api.Addr{Op: 1, File: 7, Rec: 1}, api.Addr{Op: 2, File: 7, Rec: 1}
	for _, c := range []struct {
		what   string
		to     int
		a      api.Addr
		turned map[int]byte
		want   api.Rec
		e      api.Errno
		left   api.Rec
	}{
		{"read", 5, read, nil, was, api.OK, was},
		{"write", 5, write, nil, v, api.OK, v},
		{"execute", 5, exec, nil, api.Rec{0, 0, 0, 10}, api.OK, api.Rec{0, 0, 0, 10}},
		{"nothing is turned", 5, write, map[int]byte{}, v, api.OK, v},
		{"each byte by 0", 5, write, map[int]byte{0: 0, 3: 0, 4: 0, 8: 0, 9: 0, 13: 0}, v, api.OK, v},
		{"places that there are not", 5, write, map[int]byte{-1: 1, 14: 1, math.MinInt: 1, math.MaxInt: 1, 1 << 32: 1, 1<<32 + 9: 1, 256: 1}, v, api.OK, v},
		{"another one is asked", 6, exec, nil, api.Rec{}, api.ErrTime, was},
		{"no name is asked", 0, exec, nil, api.Rec{}, api.ErrArg, was},
		{"no name is asked, above all", 255, exec, nil, api.Rec{}, api.ErrArg, was},
		{"no address", 5, api.Addr{Op: 3, File: 7, Rec: 1}, nil, api.Rec{}, api.ErrArg, was},
		{"what is not to be written", 5, api.Addr{Op: 1, File: 5, Rec: 1}, nil, api.Rec{}, api.ErrTime, was},
		{"no file", 5, api.Addr{File: 9, Rec: 1}, nil, api.Rec{}, api.ErrTime, was},
		{"the name is turned", 5, exec, map[int]byte{0: 3}, api.Rec{}, api.ErrTime, was},
		{"the ask's check byte is turned", 5, exec, map[int]byte{3: 128}, api.Rec{}, api.ErrTime, was},
		{"the first byte of data is turned", 5, write, map[int]byte{4: 1}, api.Rec{}, api.ErrTime, was},
		{"the data's check byte is turned", 5, write, map[int]byte{8: 1}, api.Rec{}, api.ErrTime, was},
		{"the data are turned, and not asked for", 5, exec, map[int]byte{4: 1, 5: 2, 6: 4, 7: 8, 8: 9}, api.Rec{0, 0, 0, 10}, api.OK, api.Rec{0, 0, 0, 10}},
		{"the answer's first byte is turned", 5, write, map[int]byte{9: 1}, api.Rec{}, api.ErrCheck, v},
		{"the answer's check byte is turned", 5, exec, map[int]byte{13: 255}, api.Rec{}, api.ErrCheck, api.Rec{0, 0, 0, 10}},
		{"no answer, which is turned", 6, exec, map[int]byte{9: 1}, api.Rec{}, api.ErrTime, was},
		{"no answer, which is turned to one", 6, exec, map[int]byte{13: 90}, api.Rec{}, api.ErrTime, was},
		{"two bytes that make another's ask this one's", 7, exec, map[int]byte{0: 2, 3: 2}, api.Rec{0, 0, 0, 10}, api.OK, api.Rec{0, 0, 0, 10}},
		{"two bytes that make it a write", 5, read, map[int]byte{1: 64, 3: 64}, v, api.OK, v},
		{"two bytes of data", 5, write, map[int]byte{4: 1, 5: 1}, api.Rec{6, 9, 9, 10}, api.OK, api.Rec{6, 9, 9, 10}},
		{"two bytes of the answer", 5, write, map[int]byte{12: 3, 13: 3}, api.Rec{7, 8, 9, 9}, api.OK, v},
	} {
		s := node(t)
		w, e := Try(s, 5, c.to, c.a, v, c.turned)
		if w != c.want || e != c.e {
			t.Errorf("%s: Try is %v, %v", c.what, w, e)
		}
		if left, ok := s.Get(7, 1); left != c.left || !ok {
			t.Errorf("%s: Try leaves %v", c.what, left)
		}
	}
}

// P16.3: which error is told first, where there is no store or no such name; and how often something was not let.
func TestTryErrors(t *testing.T) {
	v := api.Rec{1, 2, 3, 4}
	for _, n := range append(slices.Clone(ends), 0, 255) {
		for _, s := range []*ifs.Store{nil, node(t)} {
			if w, e := Try(s, n, n, api.Addr{File: 7, Rec: 1}, v, nil); w != (api.Rec{}) || e != api.ErrArg {
				t.Errorf("Try to %d is %v, %v", n, w, e)
			}
			if w, e := Try(s, n, 5, api.Addr{File: 7, Rec: 1}, v, map[int]byte{13: 1}); w != (api.Rec{}) || e != api.ErrTime {
				t.Errorf("Try of %d is %v, %v", n, w, e)
			}
		}
	}
	for _, n := range ends {
		for _, a := range []api.Addr{{Op: n, File: 7, Rec: 1}, {File: n, Rec: 1}, {File: 7, Rec: n}} {
			if w, e := Try(nil, 5, 5, a, v, nil); w != (api.Rec{}) || e != api.ErrArg {
				t.Errorf("Try of %v is %v, %v", a, w, e)
			}
		}
	}
	if w, e := Try(nil, 5, 5, api.Addr{File: 7, Rec: 1}, v, nil); w != (api.Rec{}) || e != api.ErrTime {
		t.Error("no store", w, e)
	}
	s := node(t)
	for i := 1; i <= 10; i++ {
		Try(s, 5, 5, api.Addr{Op: i % 3, File: 0, Rec: 1}, v, nil)
		Try(s, 5, 5, api.Addr{Op: 1, File: 0, Rec: 1}, v, map[int]byte{6: 1})
		Try(s, 5, 6, api.Addr{Op: 1, File: 0, Rec: 1}, v, nil)
		if s.Denied() != i {
			t.Fatal(i, s.Denied())
		}
	}
}

// P16.3: any bytes turned, against the words of the promises.
func TestTryModel(t *testing.T) {
	random := rand.New(rand.NewSource(163))
	told := map[api.Errno]int{}
	for range 60000 {
		var v api.Rec
		random.Read(v[:])
		name, to := 5+random.Intn(2), 5+random.Intn(2)
		a := api.Addr{Op: random.Intn(4), File: random.Intn(9), Rec: random.Intn(5)}
		turned := map[int]byte{}
		for range random.Intn(4) {
			// Few bits, so that two turned bytes often make up for each other.
			turned[random.Intn(18)-2] = 1 << random.Intn(8) & 0b11000011
		}
		s := node(t)
		then, want, e := model(s, name, to, a, v, turned)
		if w, is := Try(s, name, to, a, v, turned); w != want || is != e {
			t.Fatalf("Try(%d, %d, %v, %v, %v) is %v, %v, not %v, %v", name, to, a, v, turned, w, is, want, e)
		}
		if !same(s, then) {
			t.Fatalf("Try(%d, %d, %v, %v, %v) leaves %v", name, to, a, v, turned, s.Files())
		}
		told[e]++
	}
	for _, e := range []api.Errno{api.OK, api.ErrArg, api.ErrTime, api.ErrCheck} {
		if told[e] < 1000 {
			t.Errorf("%v came %d times only", e, told[e])
		}
	}
}

// model: what comes of a round, and what the store is behind it, byte by byte of fourteen.
func model(s *ifs.Store, name, to int, a api.Addr, v api.Rec, turned map[int]byte) (then *ifs.Store, now api.Rec, e api.Errno) {
	if to < 1 || to > 254 || a.Op > 2 {
		return s.Copy(), api.Rec{}, api.ErrArg
	}
	var line [14]byte
	ask, data := asks(byte(to), byte(64*a.Op+a.File), byte(a.Rec)), dataOf(v)
	copy(line[:4], ask[:])
	copy(line[4:9], data[:])
	for i := range 9 {
		line[i] ^= turned[i]
	}
	op := int(line[1] >> 6)
	if xor(line[:4]) != 0x5A || int(line[0]) != name || op == 3 || op == 1 && xor(line[4:9]) != 0x5A {
		return s.Copy(), api.Rec{}, api.ErrTime
	}
	then, now, ok := due(s, api.Addr{Op: op, File: int(line[1] & 63), Rec: int(line[2])}, api.Rec(line[4:8]))
	if !ok {
		return then, api.Rec{}, api.ErrTime
	}
	answer := dataOf(now)
	copy(line[9:], answer[:])
	for i := 9; i < 14; i++ {
		line[i] ^= turned[i]
	}
	if xor(line[9:]) != 0x5A {
		return then, api.Rec{}, api.ErrCheck
	}
	return then, api.Rec(line[9:13]), api.OK
}

func xor(list []byte) byte {
	var x byte
	for _, b := range list {
		x ^= b
	}
	return x
}

// P16.4: any one byte turned, in any way, whatever is asked: all is as it was, or as it is without that; and what is told as done was done.
func TestTurned(t *testing.T) {
	v, fresh := api.Rec{9, 90, 255, 1}, node(t)
	for op := range 3 {
		for _, n := range []int{0, 3, 5, 7, 8, 63} {
			for _, rec := range []int{0, 1, 3, 4} {
				a := api.Addr{Op: op, File: n, Rec: rec}
				then, now, ok := due(fresh, a, v)
				for place := range 14 {
					for m := 1; m < 256; m++ {
						s := fresh.Copy()
						w, e := Try(s, 5, 5, a, v, map[int]byte{place: byte(m)})
						held := same(s, fresh) || same(s, then)
						done := e == api.OK && ok && w == now && same(s, then)
						if !held || !done && (e == api.OK || w != (api.Rec{})) {
							t.Fatalf("Try of %v with %d at %d is %v, %v, and leaves %v", a, m, place, w, e, s.Files())
						}
					}
				}
			}
		}
	}
}

// P16.3: what is turned is neither changed nor kept, and one round is nothing to the next one.
func TestMemory(t *testing.T) {
	turned := map[int]byte{4: 1, 9: 2, 77: 3}
	was := maps.Clone(turned)
	s, a, v := node(t), api.Addr{Op: 2, File: 7, Rec: 3}, api.Rec{1, 2, 3, 4}
	if w, e := Try(s, 5, 5, a, v, turned); w != (api.Rec{}) || e != api.ErrCheck {
		t.Error(w, e)
	}
	if !maps.Equal(turned, was) {
		t.Error(turned)
	}
	clear(turned)
	for i := range 3 {
		want := api.Rec{0, 0, 0, byte(1 + i)}
		if w, e := Try(s, 5, 5, a, v, turned); w != want || e != api.OK {
			t.Errorf("%d: Try is %v, %v", i, w, e)
		}
	}
	if w, e := Try(node(t), 5, 5, a, v, nil); w != (api.Rec{}) || e != api.OK {
		t.Error("another store", w, e)
	}
}
