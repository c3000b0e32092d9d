package rose

import (
	"math"
	"math/rand"
	"slices"
	"testing"

	"hayward/api"
	"hayward/file"
)

// wild: numbers that are no round's; some of them would be one, if they were cut to a byte or to 32 bits.
var wild = []int{math.MinInt, math.MinInt + 1, -1 << 32, -1<<32 + 1, -256, -255, -6, -2, -1, 6, 7, 8, 64, 255, 256, 257, 261, 512, 1 << 16, 1 << 32, 1<<32 + 5, 1 << 62, math.MaxInt - 1, math.MaxInt}

// mixed: so many numbers, of which each may be of a sequence.
func mixed(n int) []int {
	list := make([]int, n)
	for i := range list {
		list[i] = (i*i + i/3 + 5) % 6
	}
	return list
}

// filed: a file that may be, of those records.
func filed(t *testing.T, perm int, recs ...api.Rec) api.File {
	t.Helper()
	f, e := file.New(perm, len(recs))
	if e != api.OK {
		t.Fatal(perm, len(recs), e)
	}
	copy(f.Recs[1:], recs)
	return f
}

// holds: File of a sequence is what the document asks for, and Sequence takes it back.
func holds(t *testing.T, list []int) {
	t.Helper()
	f, e := File(list)
	n := byte(len(list))
	if e != api.OK || f.Perm != 3 || len(f.Recs) != len(list)+1 || f.Recs[0] != (api.Rec{n, 3, 165, n ^ 3 ^ 165}) {
		t.Fatalf("File of %v is %v, %v", list, f, e)
	}
	for i, m := range list {
		if f.Recs[1+i] != (api.Rec{byte(m), 0, 0, 0}) {
			t.Fatalf("File of %v is %v", list, f)
		}
	}
	if back, e := Sequence(f); e != api.OK || !slices.Equal(back, list) {
		t.Fatalf("Sequence of %v is %v, %v, not %v", f, back, e, list)
	}
}

// noSequence: what is handed in is refused as no sequence, wherever Next is asked.
func noSequence(t *testing.T, list []int) {
	t.Helper()
	if f, e := File(list); e != api.ErrArg || f.Perm != 0 || len(f.Recs) != 0 {
		t.Fatalf("File of %v is %v, %v", list, f, e)
	}
	for _, at := range []int{-1, 0, 1, len(list) - 1, len(list), len(list) + 1} {
		noNext(t, list, at)
	}
}

// noNext: there is no such place.
func noNext(t *testing.T, list []int, at int) {
	t.Helper()
	if n, next, e := Next(list, at); n != 0 || next != 0 || e != api.ErrArg {
		t.Fatalf("Next of %v at %d is %d, %d, %v", list, at, n, next, e)
	}
}

// noFile: the file is no sequence's.
func noFile(t *testing.T, name string, f api.File) {
	t.Helper()
	if list, e := Sequence(f); len(list) != 0 || e != api.ErrForm {
		t.Fatalf("%s: Sequence of %v is %v, %v", name, f, list, e)
	}
}

// P13.1: files written out.
func TestFile(t *testing.T) {
	for _, c := range []struct {
		list []int
		recs []api.Rec
	}{
		{[]int{0}, []api.Rec{{1, 3, 165, 167}, {0, 0, 0, 0}}},
		{[]int{5}, []api.Rec{{1, 3, 165, 167}, {5, 0, 0, 0}}},
		{[]int{2, 5}, []api.Rec{{2, 3, 165, 164}, {2, 0, 0, 0}, {5, 0, 0, 0}}},
		{[]int{3, 3, 1}, []api.Rec{{3, 3, 165, 165}, {3, 0, 0, 0}, {3, 0, 0, 0}, {1, 0, 0, 0}}},
	} {
		f, e := File(c.list)
		if e != api.OK || !file.Same(f, api.File{Perm: 3, Recs: c.recs}) {
			t.Errorf("File of %v is %v, %v", c.list, f, e)
		}
		list, e := Sequence(api.File{Perm: 3, Recs: c.recs})
		if e != api.OK || !slices.Equal(list, c.list) {
			t.Errorf("Sequence of %v is %v, %v", c.recs, list, e)
		}
	}
}

// P13.1: all short sequences, and of all lengths some, as files and back again.
func TestAllFiles(t *testing.T) {
	for n, all := 1, 6; n <= 6; n, all = n+1, 6*all {
		for m := range all {
			var list []int
			for range n {
				list = append(list, m%6)
				m /= 6
			}
			holds(t, list)
		}
	}
	for n := 1; n <= 64; n++ {
		holds(t, mixed(n))
		for m := range 6 {
			holds(t, slices.Repeat([]int{m}, n))
		}
	}
}

// P13.1, P13.2: lists that are no sequence.
func TestNoSequence(t *testing.T) {
	noSequence(t, nil)
	noSequence(t, []int{})
	noSequence(t, mixed(3)[:0])
	for _, n := range []int{65, 66, 128, 254, 255, 256, 257, 256 + 64, 1 << 16, 1<<16 + 1} {
		noSequence(t, make([]int, n))
		noSequence(t, mixed(n))
	}
	// One that is wrong makes all wrong, wherever it stands.
	for _, n := range []int{1, 2, 3, 63, 64} {
		for i := range n {
			for _, m := range wild {
				list := mixed(n)
				list[i] = m
				noSequence(t, list)
				for at := range n {
					noNext(t, list, at)
				}
			}
		}
	}
	// What stands in spare room is no part of it.
	holds(t, append(mixed(3), 6, -1)[:3])
	holds(t, mixed(70)[:64])
}

// P13.1: files that are no sequence's, though they may be.
func TestNoFile(t *testing.T) {
	noFile(t, "no records", filed(t, 3))
	right := mixed(64)
	f, _ := File(right)
	for n := 1; n <= 64; n++ {
		for perm := range 8 {
			g := filed(t, perm, f.Recs[1:1+n]...)
			if perm != 3 {
				noFile(t, "other permissions", g)
				continue
			}
			if list, e := Sequence(g); e != api.OK || !slices.Equal(list, right[:n]) {
				t.Fatalf("Sequence of %v is %v, %v", g, list, e)
			}
		}
	}
	for n := 65; n <= 255; n++ {
		noFile(t, "too many", filed(t, 3, make([]api.Rec, n)...))
		noFile(t, "too many, as what stands behind counts", filed(t, 3, append(slices.Clone(f.Recs[1:]), make([]api.Rec, n-64)...)...))
	}
	for _, n := range []int{1, 2, 64} {
		for i := range n {
			for m := range 256 {
				g := filed(t, 3, f.Recs[1:1+n]...)
				g.Recs[1+i][0] = byte(m)
				if list, e := Sequence(g); m < 6 && (e != api.OK || len(list) != n || list[i] != m) {
					t.Fatalf("Sequence of %v is %v, %v", g, list, e)
				} else if m >= 6 {
					noFile(t, "no round", g)
				}
				for b := 1; b < 4 && m > 0; b++ {
					g := filed(t, 3, f.Recs[1:1+n]...)
					g.Recs[1+i][b] = byte(m)
					noFile(t, "a byte that is not 0", g)
				}
			}
		}
	}
}

// P13.1: files that may not be.
func TestWrongFile(t *testing.T) {
	right, _ := File([]int{2, 5, 0})
	noFile(t, "nothing", api.File{})
	noFile(t, "no header", api.File{Perm: 3, Recs: []api.Rec{}})
	noFile(t, "records without a header", api.File{Perm: 3, Recs: right.Recs[1:]})
	noFile(t, "a record less", api.File{Perm: 3, Recs: right.Recs[:3]})
	noFile(t, "a record more", api.File{Perm: 3, Recs: append(slices.Clone(right.Recs), api.Rec{})})
	for i := range 4 {
		for m := 1; m < 256; m++ {
			torn := slices.Clone(right.Recs)
			torn[0][i] ^= byte(m)
			noFile(t, "a torn header", api.File{Perm: 3, Recs: torn})
		}
	}
	for _, perm := range append([]int{0, 1, 2, 4, 5, 8, 9, 1<<32 + 3, 259}, wild...) {
		noFile(t, "permissions that the header does not have", api.File{Perm: perm, Recs: right.Recs})
		p := byte(perm)
		recs := slices.Clone(right.Recs)
		recs[0] = api.Rec{3, p, 165, 3 ^ p ^ 165}
		noFile(t, "permissions that the header has", api.File{Perm: perm, Recs: recs})
	}
	for _, n := range []int{256, 257, 256 + 3, 256 + 64} {
		recs := make([]api.Rec, 1+n)
		recs[0] = api.Rec{byte(n), 3, 165, byte(n) ^ 3 ^ 165}
		noFile(t, "too many records", api.File{Perm: 3, Recs: recs})
	}
}

// P13.1: many files, most of them near to a sequence's.
func TestManyFiles(t *testing.T) {
	random := rand.New(rand.NewSource(13))
	taken := 0
	for range 50000 {
		recs := make([]api.Rec, random.Intn(70))
		var want []int
		ok := len(recs) >= 1 && len(recs) <= 64
		for i := range recs {
			recs[i][0] = byte(random.Intn(6))
			if random.Intn(60) == 0 {
				recs[i][random.Intn(4)] = byte(random.Intn(9))
			}
			want = append(want, int(recs[i][0]))
			ok = ok && recs[i][0] <= 5 && recs[i][1] == 0 && recs[i][2] == 0 && recs[i][3] == 0
		}
		perm := 3
		if random.Intn(5) == 0 {
			perm = random.Intn(8)
		}
		f := filed(t, perm, recs...)
		if !ok || perm != 3 {
			noFile(t, "near", f)
			continue
		}
		taken++
		if list, e := Sequence(f); e != api.OK || !slices.Equal(list, want) {
			t.Fatalf("Sequence of %v is %v, %v, not %v", f, list, e, want)
		}
	}
	if taken < 10000 || taken > 40000 {
		t.Errorf("%d of the files were sequences'", taken)
	}
}

// P13.2: the document's example, and places written out.
func TestNext(t *testing.T) {
	for _, c := range []struct {
		list            []int
		at, round, next int
	}{
		{[]int{2, 5}, 1, 5, 0},
		{[]int{2, 5}, 0, 2, 1},
		{[]int{4}, 0, 4, 0},
		{[]int{0}, 0, 0, 0},
		{[]int{1, 1, 3}, 0, 1, 1},
		{[]int{1, 1, 3}, 1, 1, 2},
		{[]int{1, 1, 3}, 2, 3, 0},
	} {
		if n, next, e := Next(c.list, c.at); n != c.round || next != c.next || e != api.OK {
			t.Errorf("Next of %v at %d is %d, %d, %v", c.list, c.at, n, next, e)
		}
	}
}

// P13.2: all places of sequences of all lengths, twice round; and those around them.
func TestAllPlaces(t *testing.T) {
	for n := 1; n <= 64; n++ {
		list := mixed(n)
		at := 0
		for i := range 2 * n {
			round, next, e := Next(list, at)
			if round != list[i%n] || next != (i+1)%n || e != api.OK {
				t.Fatalf("Next of %v at %d is %d, %d, %v", list, at, round, next, e)
			}
			at = next
		}
		for _, at := range append([]int{n, n + 1, 2 * n, -n, -n - 1}, wild...) {
			if at < 0 || at >= n {
				noNext(t, list, at)
			}
		}
		// A place in spare room is none.
		noNext(t, append(slices.Clone(list), 1)[:n], n)
	}
}

// P13.1, P13.2: what is handed in is not changed, and what is answered is nobody else's.
func TestMemory(t *testing.T) {
	room := append(mixed(8), 9, 9, 9)
	was := slices.Clone(room)
	list := room[:5]
	f, _ := File(list)
	g, _ := File(list)
	Next(list, 4)
	noSequence(t, room)
	if !slices.Equal(room, was) {
		t.Error("what was handed in was changed")
	}
	kept := filed(t, 3, slices.Clone(g.Recs[1:])...)
	fill(f.Recs, api.Rec{6, 6, 6, 6})
	fill(list, 7)
	if !file.Same(g, kept) {
		t.Error("a file is not in memory of its own")
	}

	recs := append(slices.Clone(kept.Recs), slices.Repeat([]api.Rec{{9, 9, 9, 9}}, 8)...)
	before := slices.Clone(recs)
	h := api.File{Perm: 3, Recs: recs[:6]}
	a, _ := Sequence(h)
	b, _ := Sequence(h)
	noFile(t, "all of it", api.File{Perm: 3, Recs: recs})
	if !slices.Equal(recs, before) {
		t.Error("Sequence changed what was handed in")
	}
	fill(a, 7)
	fill(recs, api.Rec{6, 6, 6, 6})
	if !slices.Equal(b, was[:5]) {
		t.Error("a sequence is not in memory of its own")
	}
}

// fill: writes over all of a list, its spare room too.
func fill[T any](list []T, x T) {
	list = list[:cap(list)]
	for i := range list {
		list[i] = x
	}
}
