package name

import (
	"math"
	"math/rand"
	"slices"
	"testing"

	"hayward/api"
)

// ends: numbers that are no short name; some of them would be, if they were cut to a byte or to 32 bits.
var ends = []int{math.MinInt, math.MinInt + 1, -1 << 32, -1<<32 + 5, -256, -251, -1, 255, 256, 257, 1 << 16, 1<<16 + 5, 1 << 32, 1<<32 + 5, math.MaxInt - 1, math.MaxInt}

// crowd: so many without a short name, by falling long ones down to 1.
func crowd(n int) []api.Slave {
	var out []api.Slave
	for i := range n {
		out = append(out, api.Slave{Phys: uint64(n - i)})
	}
	return out
}

// randomList: a list that may be, in any order; its long names are near to each other, or at the ends.
func randomList(random *rand.Rand) []api.Slave {
	var out []api.Slave
	long, short := random.Perm(80), random.Perm(40)
	if random.Intn(4) == 0 {
		short = random.Perm(254)
	}
	base := []uint64{0, 1, 1<<32 - 40, 1<<63 - 40, 1<<64 - 80}[random.Intn(5)]
	for i := range random.Intn(33) {
		s := api.Slave{Phys: base + uint64(long[i])}
		if random.Intn(3) > 0 {
			s.Name = short[i] + 1
		}
		out = append(out, s)
	}
	return out
}

// free: the least name from 1 to most and to 254 that is nobody's, looked for one by one; 0: there is none.
func free(list []api.Slave, most int) int {
	for n := 1; n <= 254 && n <= most; n++ {
		if !slices.ContainsFunc(list, func(s api.Slave) bool { return s.Name == n }) {
			return n
		}
	}
	return 0
}

// nobody: the places of those without a short name, by rising long ones.
func nobody(list []api.Slave) []int {
	var out []int
	for i, s := range list {
		if s.Name == 0 {
			out = append(out, i)
		}
	}
	slices.SortFunc(out, func(a, b int) int {
		if list[a].Phys < list[b].Phys {
			return -1
		}
		return 1
	})
	return out
}

// P17.1: lists that are written out.
func TestGood(t *testing.T) {
	for _, c := range []struct {
		name string
		list []api.Slave
		want bool
	}{
		{"nothing", nil, true},
		{"nobody", []api.Slave{}, true},
		{"all zero", []api.Slave{{}}, true},
		{"one with the ends of both", []api.Slave{{Phys: math.MaxUint64, Name: 254}}, true},
		{"several without a short name", []api.Slave{{Phys: 9}, {Phys: 0}, {Phys: 4}}, true},
		{"several with one", []api.Slave{{Phys: 9, Name: 1}, {Phys: 4, Name: 254}, {Phys: 1, Name: 2}}, true},
		{"one's short name as the other's long one", []api.Slave{{Phys: 1, Name: 2}, {Phys: 2, Name: 1}, {Phys: 3, Name: 3}}, true},
		{"long names that part above 32 bits", []api.Slave{{Phys: 5}, {Phys: 1<<32 + 5}, {Phys: 1<<63 + 5}}, true},
		{"what stands in spare room", append([]api.Slave{{Phys: 1}}, api.Slave{Phys: 1, Name: -1})[:1], true},
		{"a long name twice", []api.Slave{{Phys: 1}, {Phys: 1}}, false},
		{"a long name twice, named otherwise", []api.Slave{{Phys: 1, Name: 1}, {Phys: 1, Name: 2}}, false},
		{"a long name twice, one without a short one", []api.Slave{{Phys: 1}, {Phys: 2}, {Phys: 1, Name: 2}}, false},
		{"long name 0 twice", []api.Slave{{Name: 1}, {Phys: 3}, {}}, false},
		{"the last long name twice", []api.Slave{{Phys: math.MaxUint64}, {Phys: math.MaxUint64, Name: 7}}, false},
		{"a short name twice", []api.Slave{{Phys: 1, Name: 7}, {Phys: 2, Name: 7}}, false},
		{"a short name three times", []api.Slave{{Phys: 1, Name: 7}, {Phys: 2, Name: 7}, {Phys: 3, Name: 7}}, false},
		{"the last short name twice", []api.Slave{{Phys: 1, Name: 254}, {Phys: 2}, {Phys: 3, Name: 254}}, false},
		{"the same twice", []api.Slave{{Phys: 1, Name: 7}, {Phys: 1, Name: 7}}, false},
	} {
		if Good(c.list) != c.want {
			t.Errorf("%s: Good is not %v", c.name, c.want)
		}
	}
}

// P17.1: all short names, those around them too, at each place of a list.
func TestGoodNames(t *testing.T) {
	var names []int
	for n := -300; n <= 600; n++ {
		names = append(names, n)
	}
	for _, n := range append(names, ends...) {
		for place := range 4 {
			list := crowd(4)
			list[place].Name = n
			if want := n >= 0 && n <= 254; Good(list) != want {
				t.Errorf("Good with Name %d at %d is not %v", n, place, want)
			}
		}
	}
}

// P17.1: how many there may be.
func TestGoodMany(t *testing.T) {
	for n := range 300 {
		list, named := crowd(n), crowd(n)
		for i := range named {
			named[i].Name = min(i+1, 254)
		}
		if want := n <= 32; Good(list) != want || Good(named) != want {
			t.Errorf("Good of %d is %v and %v, not %v", n, Good(list), Good(named), want)
		}
	}
}

// P17.1: any two places of a full list: no two may have one long name, or one short name.
func TestGoodPairs(t *testing.T) {
	full := crowd(32)
	for i := range full {
		full[i].Name = 3*i + 1
	}
	if !Good(full) {
		t.Fatal("full")
	}
	for i := range full {
		for k := range full {
			if i == k {
				continue
			}
			phys, short, gone := slices.Clone(full), slices.Clone(full), slices.Clone(full)
			phys[i].Phys = phys[k].Phys
			short[i].Name = short[k].Name
			gone[i].Name, gone[k].Name = 0, 0
			if Good(phys) || Good(short) || !Good(gone) {
				t.Errorf("%d and %d: %v %v %v", i, k, Good(phys), Good(short), Good(gone))
			}
		}
	}
}

// P17.1: many small lists, each two of which are held against each other.
func TestGoodModel(t *testing.T) {
	random := rand.New(rand.NewSource(171))
	came := map[bool]int{}
	for range 40000 {
		var list []api.Slave
		for range random.Intn(7) {
			list = append(list, api.Slave{Phys: uint64(random.Intn(30)), Name: random.Intn(18) * 16})
		}
		want := true
		for i, s := range list {
			want = want && s.Name <= 254
			for _, o := range list[:i] {
				want = want && s.Phys != o.Phys && (s.Name != o.Name || s.Name == 0)
			}
		}
		if Good(list) != want {
			t.Fatalf("Good of %v is not %v", list, want)
		}
		came[want]++
	}
	if came[true] < 1000 || came[false] < 1000 {
		t.Error(came)
	}
}

// P17.2: lists that are written out.
func TestFree(t *testing.T) {
	gap := []api.Slave{{Phys: 7, Name: 4}, {Phys: 3, Name: 1}, {Phys: 9}, {Phys: 5, Name: 2}}
	for _, c := range []struct {
		name string
		list []api.Slave
		most int
		want int
		ok   bool
	}{
		{"nobody", nil, 1, 1, true},
		{"nobody, and no room", nil, 0, 0, false},
		{"nobody, and less than no room", nil, -1, 0, false},
		{"nobody with a name", crowd(5), 3, 1, true},
		{"1 is had", []api.Slave{{Name: 1}}, 2, 2, true},
		{"1 is had, and is the most", []api.Slave{{Name: 1}}, 1, 0, false},
		{"1 is not had", []api.Slave{{Name: 2}}, 1, 1, true},
		{"a gap", gap, 254, 3, true},
		{"a gap at the most", gap, 3, 3, true},
		{"a gap behind the most", gap, 2, 0, false},
		{"names above the most", []api.Slave{{Phys: 1, Name: 254}, {Phys: 2, Name: 1}}, 1, 0, false},
		{"the least most", gap, math.MinInt, 0, false},
		{"the greatest most", gap, math.MaxInt, 3, true},
		{"a most above 32 bits", gap, 1 << 32, 3, true},
	} {
		if n, ok := Free(c.list, c.most); n != c.want || ok != c.ok {
			t.Errorf("%s: Free is %d, %v", c.name, n, ok)
		}
	}
}

// P17.2: a full list of rising names, each of which is left out once.
func TestFreeFull(t *testing.T) {
	for left := 1; left <= 33; left++ {
		var list []api.Slave
		for n := 33; n >= 1; n-- {
			if n != left {
				list = append(list, api.Slave{Phys: uint64(n), Name: n})
			}
		}
		for most := -2; most <= 300; most++ {
			want, ok := left, most >= left
			if !ok {
				want = 0
			}
			if n, is := Free(list, most); n != want || is != ok {
				t.Fatalf("Free without %d, up to %d, is %d, %v", left, most, n, is)
			}
		}
	}
}

// P17.2: lists that are written out.
func TestLeast(t *testing.T) {
	for _, c := range []struct {
		name string
		list []api.Slave
		want uint64
		ok   bool
	}{
		{"nobody", nil, 0, false},
		{"all have one", []api.Slave{{Phys: 3, Name: 1}, {Phys: 1, Name: 254}}, 0, false},
		{"one has none", []api.Slave{{Phys: 3, Name: 1}, {Phys: 5}, {Phys: 1, Name: 2}}, 5, true},
		{"the first one", []api.Slave{{Phys: 2}, {Phys: 3}, {Phys: 4}}, 2, true},
		{"the last one", []api.Slave{{Phys: 4}, {Phys: 3}, {Phys: 2}}, 2, true},
		{"the one between", []api.Slave{{Phys: 4}, {Phys: 2}, {Phys: 3}}, 2, true},
		{"long name 0", []api.Slave{{Phys: 4}, {Phys: 0}, {Phys: 3}}, 0, true},
		{"long name 0, that has a short one", []api.Slave{{Phys: 4}, {Phys: 0, Name: 9}, {Phys: 3}}, 3, true},
		{"the greatest one alone", []api.Slave{{Phys: math.MaxUint64}}, math.MaxUint64, true},
		{"those above 2^63", []api.Slave{{Phys: math.MaxUint64}, {Phys: 1 << 63}, {Phys: 1<<63 - 1}}, 1<<63 - 1, true},
		{"those above 2^32", []api.Slave{{Phys: 1 << 32}, {Phys: 1<<32 - 1}, {Phys: 2<<32 + 1}}, 1<<32 - 1, true},
	} {
		if p, ok := Least(c.list); p != c.want || ok != c.ok {
			t.Errorf("%s: Least is %d, %v", c.name, p, ok)
		}
	}
}

// P17.2: many lists, against what the document says of them.
func TestFreeLeastModel(t *testing.T) {
	random := rand.New(rand.NewSource(172))
	for range 20000 {
		list, most := randomList(random), random.Intn(45)-5
		if !Good(list) {
			t.Fatalf("Good of %v", list)
		}
		want := free(list, most)
		if n, ok := Free(list, most); n != want || ok != (want > 0) {
			t.Fatalf("Free of %v up to %d is %d, %v, not %d", list, most, n, ok, want)
		}
		var least uint64
		without := nobody(list)
		if len(without) > 0 {
			least = list[without[0]].Phys
		}
		if p, ok := Least(list); p != least || ok != (len(without) > 0) {
			t.Fatalf("Least of %v is %d, %v, not %d", list, p, ok, least)
		}
	}
}

// P17.3: the document's example, and others that are written out.
func TestAssign(t *testing.T) {
	for _, c := range []struct {
		name string
		list []api.Slave
		most int
		want []int
		e    api.Errno
	}{
		{"the document's example", []api.Slave{{Phys: 9}, {Phys: 4}}, 254, []int{2, 1}, api.OK},
		{"nobody", nil, 254, nil, api.OK},
		{"nobody, and no room", nil, 0, nil, api.OK},
		{"all have one", []api.Slave{{Phys: 9, Name: 7}, {Phys: 4, Name: 8}}, 254, []int{7, 8}, api.OK},
		{"all have one, and no room", []api.Slave{{Phys: 9, Name: 7}, {Phys: 4, Name: 8}}, 0, []int{7, 8}, api.OK},
		{"all have one, above the most", []api.Slave{{Phys: 9, Name: 254}}, 1, []int{254}, api.OK},
		{"gaps", []api.Slave{{Phys: 9, Name: 2}, {Phys: 8}, {Phys: 7, Name: 4}, {Phys: 6}, {Phys: 5}}, 9, []int{2, 5, 4, 3, 1}, api.OK},
		{"just enough", []api.Slave{{Phys: 9, Name: 2}, {Phys: 8}, {Phys: 7, Name: 4}, {Phys: 6}, {Phys: 5}}, 5, []int{2, 5, 4, 3, 1}, api.OK},
		{"one is left", []api.Slave{{Phys: 9, Name: 2}, {Phys: 8}, {Phys: 7, Name: 4}, {Phys: 6}, {Phys: 5}}, 4, []int{2, 0, 4, 3, 1}, api.ErrFull},
		{"two are left", []api.Slave{{Phys: 9, Name: 2}, {Phys: 8}, {Phys: 7, Name: 4}, {Phys: 6}, {Phys: 5}}, 2, []int{2, 0, 4, 0, 1}, api.ErrFull},
		{"no room", []api.Slave{{Phys: 9}, {Phys: 4, Name: 1}}, 0, []int{0, 1}, api.ErrFull},
		{"less than no room", []api.Slave{{Phys: 9}, {Phys: 4}}, math.MinInt, []int{0, 0}, api.ErrFull},
		{"room without end", []api.Slave{{Phys: 9}, {Phys: 4}}, math.MaxInt, []int{2, 1}, api.OK},
		{"long name 0", []api.Slave{{Phys: 1}, {Phys: 0}}, 254, []int{2, 1}, api.OK},
		{"the ends of long names", []api.Slave{{Phys: math.MaxUint64}, {Phys: 1 << 63}, {Phys: 0}, {Phys: 1<<63 - 1}}, 3, []int{0, 3, 1, 2}, api.ErrFull},
	} {
		held(t, c.name, c.list, c.most, c.want, c.e)
	}
}

// held: Assign answers the list with those short names, and that error.
func held(t *testing.T, name string, list []api.Slave, most int, names []int, e api.Errno) {
	t.Helper()
	want := slices.Clone(list)
	for i := range want {
		want[i].Name = names[i]
	}
	if l, is := Assign(list, most); !slices.Equal(l, want) || is != e {
		t.Errorf("%s: Assign is %v, %v, not %v, %v", name, l, is, want, e)
	}
}

// P17.3: lists of all lengths with all that is the most.
func TestAssignAll(t *testing.T) {
	for n := range 33 {
		for most := -2; most <= 40; most++ {
			var names []int
			e := api.OK
			// crowd's long names fall, so that the last one is the first to have a name.
			for k := n; k >= 1; k-- {
				if k <= most {
					names = append(names, k)
				} else {
					names, e = append(names, 0), api.ErrFull
				}
			}
			held(t, "crowd", crowd(n), most, names, e)
		}
	}
}

// P17.3: many lists, against what the document says of them: names stay, no two are one, and new ones rise with the long ones.
func TestAssignModel(t *testing.T) {
	random := rand.New(rand.NewSource(173))
	told := map[api.Errno]int{}
	for range 20000 {
		list, most := randomList(random), random.Intn(45)-5
		want, e := slices.Clone(list), api.OK
		for _, i := range nobody(list) {
			if n := free(want, most); n > 0 {
				want[i].Name = n
			} else {
				e = api.ErrFull
			}
		}
		l, is := Assign(list, most)
		if !slices.Equal(l, want) || is != e {
			t.Fatalf("Assign of %v up to %d is %v, %v, not %v, %v", list, most, l, is, want, e)
		}
		if again, is := Assign(l, most); !slices.Equal(again, l) || is != e || !Good(l) {
			t.Fatalf("Assign of %v once more is %v, %v", l, again, is)
		}
		told[e]++
	}
	if told[api.OK] < 1000 || told[api.ErrFull] < 1000 {
		t.Error(told)
	}
}

// P17.1, P17.2, P17.3: what is handed in is not changed, spare room included; what is answered is nobody else's; nothing is kept.
func TestMemory(t *testing.T) {
	room := []api.Slave{{Phys: 9}, {Phys: 4}, {Phys: 7, Name: 1}, {Phys: 1}, {Phys: 1, Name: -5}}
	was := slices.Clone(room)
	list := room[:3]
	want := []api.Slave{{Phys: 9, Name: 3}, {Phys: 4, Name: 2}, {Phys: 7, Name: 1}}
	for range 3 {
		if !Good(list) {
			t.Error("Good")
		}
		if n, ok := Free(list, 9); n != 2 || !ok {
			t.Error("Free", n, ok)
		}
		if p, ok := Least(list); p != 4 || !ok {
			t.Error("Least", p, ok)
		}
		one, e := Assign(list, 9)
		other, f := Assign(list, 9)
		if !slices.Equal(one, want) || !slices.Equal(other, want) || e != api.OK || f != api.OK {
			t.Error("Assign", one, e, other, f)
		}
		fill(one)
		if !slices.Equal(other, want) || !slices.Equal(room, was) {
			t.Error("what is answered is shared", other, room)
		}
		full, e := Assign(list, 1)
		if !slices.Equal(full, list) || e != api.ErrFull {
			t.Error("Assign without room", full, e)
		}
		fill(full)
		named, e := Assign(list[2:], 1)
		if !slices.Equal(named, list[2:]) || e != api.OK {
			t.Error("Assign with nobody to name", named, e)
		}
		fill(named)
		empty, _ := Assign(list[:0], 1)
		fill(empty)
		if !slices.Equal(room, was) {
			t.Fatal("what was handed in is changed", room)
		}
	}
}

// fill: a list with other things, spare room included.
func fill(list []api.Slave) {
	list = list[:cap(list)]
	for i := range list {
		list[i] = api.Slave{Phys: 77, Name: 77}
	}
}

// R1: lists that may not be are not promised anything, but each call ends.
func TestWild(t *testing.T) {
	long := append(crowd(1000), crowd(1000)...)
	for i, n := range ends {
		long[i].Name = n
	}
	for _, most := range append([]int{0, 1, 254}, ends...) {
		Free(long, most)
		Least(long)
		Assign(long, most)
	}
	if Good(long) {
		t.Error("Good")
	}
}
