package baptize

import (
	"math"
	"math/big"
	"math/rand"
	"slices"
	"testing"

	"hayward/api"
	"hayward/name"
)

// top is the greatest long name.
const top = uint64(math.MaxUint64)

// crowd: so many without a short name, by falling long ones down to 1.
func crowd(n int) []api.Slave {
	var out []api.Slave
	for i := range n {
		out = append(out, api.Slave{Phys: uint64(n - i)})
	}
	return out
}

// lostAt: so many rounds, of which those are lost.
func lostAt(n int, rounds ...int) []bool {
	out := make([]bool, n)
	for _, r := range rounds {
		out[r] = true
	}
	return out
}

// allLost: so many rounds, each of which is lost.
func allLost(n int) []bool {
	return slices.Repeat([]bool{true}, n)
}

// randomList: a list that may be, of long names that are near to each other, at the ends, anywhere, or powers of 2 (upon which a search comes that missed an answer).
func randomList(random *rand.Rand) []api.Slave {
	var out []api.Slave
	long, short := random.Perm(80), random.Perm(40)
	base := []uint64{0, 1, 1<<32 - 40, 1<<63 - 40, 1<<64 - 80}[random.Intn(5)]
	kind, powers, named := random.Intn(4), random.Perm(64), random.Intn(4)
	for i := range random.Intn(33) {
		s := api.Slave{Phys: base + uint64(long[i])}
		switch kind {
		case 0:
			s.Phys = random.Uint64()
		case 1:
			s.Phys = 1 << powers[i]
		}
		if random.Intn(4) < named {
			s.Name = short[i] + 1
		}
		out = append(out, s)
	}
	return out
}

// randomLost: none, a few, many or all rounds lost.
func randomLost(random *rand.Rand) []bool {
	out := make([]bool, random.Intn([]int{1, 70, 300, 3000, 3000}[random.Intn(5)]))
	one := []int{1, 2, 20, 50, 80, 500}[random.Intn(6)]
	for i := range out {
		out[i] = random.Intn(one) == 0
	}
	return out
}

// search is Search by the document's words, in whole numbers without bound.
func search(list []api.Slave, lost []bool) (phys uint64, rounds int, ok bool) {
	ask := func(is func(p *big.Int) bool) bool {
		rounds++
		heard := false
		for _, s := range list {
			heard = heard || s.Name == 0 && is(new(big.Int).SetUint64(s.Phys))
		}
		return heard && !(len(lost) >= rounds && lost[rounds-1])
	}
	last := new(big.Int).SetUint64(top)
	if !ask(func(p *big.Int) bool { return p.Cmp(last) <= 0 }) {
		return 0, rounds, false
	}
	low, high := new(big.Int), new(big.Int).Set(last)
	for range 64 {
		c := new(big.Int).Add(low, high)
		c.Rsh(c, 1)
		if ask(func(p *big.Int) bool { return p.Cmp(c) <= 0 }) {
			high = c
		} else if low = new(big.Int).Add(c, big.NewInt(1)); low.Cmp(last) > 0 {
			low = last
		}
	}
	if !ask(func(p *big.Int) bool { return p.Cmp(high) == 0 }) {
		return 0, rounds, false
	}
	return high.Uint64(), rounds, true
}

// run is Run by the document's words.
func run(list []api.Slave, most int, lost []bool) ([]api.Slave, int, api.Errno) {
	out, rounds := slices.Clone(list), 0
	for {
		short, free := 0, false
		for n := min(most, 254); n >= 1; n-- {
			if !slices.ContainsFunc(out, func(s api.Slave) bool { return s.Name == n }) {
				short, free = n, true
			}
		}
		if !free && slices.ContainsFunc(out, func(s api.Slave) bool { return s.Name == 0 }) {
			return out, rounds, api.ErrFull
		}
		var rest []bool
		for r := rounds; r < len(lost); r++ {
			rest = append(rest, lost[r])
		}
		phys, n, ok := search(out, rest)
		rounds += n
		for i := range out {
			if ok && out[i].Phys == phys {
				out[i].Name = short
			}
		}
		if ok {
			rounds++
		} else if n == 1 && (len(rest) == 0 || !rest[0]) {
			return out, rounds, api.OK
		}
	}
}

// P18.1: lists that are written out.
func TestAnswers(t *testing.T) {
	some := []api.Slave{{Phys: 9}, {Phys: 2, Name: 1}, {Phys: 5}, {Phys: 7, Name: 254}}
	for _, c := range []struct {
		name string
		list []api.Slave
		c    uint64
		want bool
	}{
		{"nobody", nil, top, false},
		{"nobody, asked for 0", nil, 0, false},
		{"all have one", []api.Slave{{Phys: 2, Name: 1}, {Phys: 0, Name: 254}}, top, false},
		{"less than the least", some, 4, false},
		{"just the least", some, 5, true},
		{"more than the least", some, 6, true},
		{"all", some, top, true},
		{"asked for 0", some, 0, false},
		{"long name 0", []api.Slave{{Phys: 3}, {}}, 0, true},
		{"long name 0, that has a short one", []api.Slave{{Phys: 3}, {Name: 1}}, 2, false},
		{"the last one of the list", []api.Slave{{Phys: 9}, {Phys: 8}, {Phys: 1}}, 1, true},
		{"the first one of the list", []api.Slave{{Phys: 1}, {Phys: 8}, {Phys: 9}}, 1, true},
		{"the greatest long name", []api.Slave{{Phys: top}}, top, true},
		{"less than the greatest long name", []api.Slave{{Phys: top}}, top - 1, false},
		{"just 2^63", []api.Slave{{Phys: 1 << 63}}, 1 << 63, true},
		{"less than 2^63", []api.Slave{{Phys: 1 << 63}}, 1<<63 - 1, false},
		{"above 2^32", []api.Slave{{Phys: 1<<32 + 5}}, 6, false},
	} {
		if Answers(c.list, c.c) != c.want {
			t.Errorf("%s: Answers is not %v", c.name, c.want)
		}
	}
}

// P18.1: many lists, asked for what is around each long name.
func TestAnswersModel(t *testing.T) {
	random := rand.New(rand.NewSource(181))
	came := map[bool]int{}
	for range 3000 {
		list := randomList(random)
		least, left := name.Least(list)
		for _, s := range list {
			for _, c := range []uint64{0, s.Phys - 1, s.Phys, s.Phys + 1, top} {
				want := left && least <= c
				if Answers(list, c) != want {
					t.Fatalf("Answers of %v to %d is not %v", list, c, want)
				}
				came[want]++
			}
		}
	}
	if came[true] < 1000 || came[false] < 1000 {
		t.Error(came)
	}
}

// P18.2: lists that are written out.
func TestSearch(t *testing.T) {
	some := []api.Slave{{Phys: 9}, {Phys: 2, Name: 1}, {Phys: 5}, {Phys: 7, Name: 254}}
	for _, c := range []struct {
		name string
		list []api.Slave
		lost []bool
		phys uint64
		n    int
		ok   bool
	}{
		{"nobody", nil, nil, 0, 1, false},
		{"nobody, and that is lost", nil, allLost(1), 0, 1, false},
		{"all have one", some[1:2], nil, 0, 1, false},
		{"all have one, and all is lost", some[1:2], allLost(99), 0, 1, false},
		{"the least one", some, nil, 5, 66, true},
		{"nothing lost", some, lostAt(99), 5, 66, true},
		{"nothing lost, and nothing said of the last rounds", some, lostAt(3), 5, 66, true},
		{"the first round lost", some, lostAt(1, 0), 0, 1, false},
		{"all lost", some, allLost(99), 0, 1, false},
		{"all lost but the first round", some, slices.Concat(lostAt(1), allLost(65)), 0, 66, false},
		{"the last round lost", some, lostAt(66, 65), 0, 66, false},
		{"the round behind lost", some, lostAt(67, 66), 5, 66, true},
		{"long name 0", []api.Slave{{Phys: 1}, {}}, nil, 0, 66, true},
		{"the greatest one", []api.Slave{{Phys: top}}, nil, top, 66, true},
		{"the greatest one, with all lost that nobody answers", []api.Slave{{Phys: top}}, slices.Concat(lostAt(1), allLost(64)), top, 66, true},
		{"those around 2^63", []api.Slave{{Phys: 1<<63 + 1}, {Phys: 1 << 63}}, nil, 1 << 63, 66, true},
		{"2^63 - 1", []api.Slave{{Phys: 1 << 63}, {Phys: 1<<63 - 1}}, nil, 1<<63 - 1, 66, true},
		// The answer of who is below 2^63 is lost; from then on it answers always, as the line asks for all that are no greater.
		{"the first half lost, and nobody at 2^63", some, lostAt(2, 1), 0, 66, false},
		{"the first half lost, and one at 2^63", append([]api.Slave{{Phys: 1 << 63}}, some...), lostAt(2, 1), 1 << 63, 66, true},
		{"the first half lost, and one with a name at 2^63", append([]api.Slave{{Phys: 1 << 63, Name: 3}}, some...), lostAt(2, 1), 0, 66, false},
		{"the last half lost, and the next one there", []api.Slave{{Phys: 4}, {Phys: 5}}, lostAt(65, 64), 5, 66, true},
		{"the last half lost, and nobody there", []api.Slave{{Phys: 4}, {Phys: 6}}, lostAt(65, 64), 0, 66, false},
		{"the last half lost, in which nobody answered", []api.Slave{{Phys: 5}, {Phys: 6}}, lostAt(65, 64), 5, 66, true},
	} {
		if p, n, ok := Search(c.list, c.lost); p != c.phys || n != c.n || ok != c.ok {
			t.Errorf("%s: Search is %d, %d, %v", c.name, p, n, ok)
		}
	}
}

// P18.2: one alone, whose long name has any one bit, or all bits but one; and one beside it.
func TestSearchBits(t *testing.T) {
	for b := range 64 {
		for _, p := range []uint64{1 << b, ^(uint64(1) << b), 1<<b - 1} {
			list := []api.Slave{{Phys: p}}
			if p < top {
				list = append(list, api.Slave{Phys: p + 1})
			}
			if p > 0 {
				list = append(list, api.Slave{Phys: p - 1, Name: 1})
			}
			if is, n, ok := Search(list, nil); is != p || n != 66 || !ok {
				t.Errorf("%d: Search is %d, %d, %v", p, is, n, ok)
			}
		}
	}
}

// P18.2: each one round lost, and each two of them, of a few lists.
func TestSearchLost(t *testing.T) {
	lists := [][]api.Slave{
		{{Phys: 0}}, {{Phys: top}}, {{Phys: 1 << 40}, {Phys: 77, Name: 3}, {Phys: top}},
		{{Phys: 0}, {Phys: 1}, {Phys: 2, Name: 1}, {Phys: 1 << 7}, {Phys: 1 << 62}, {Phys: 1 << 63}},
		{{Phys: 2, Name: 1}},
	}
	for _, list := range lists {
		for i := range 68 {
			for k := range 68 {
				heldSearch(t, list, lostAt(68, i, k))
			}
		}
	}
}

// heldSearch: is Search what the document's words tell? It answers whether somebody is found.
func heldSearch(t *testing.T, list []api.Slave, lost []bool) bool {
	t.Helper()
	phys, rounds, found := search(list, lost)
	if p, n, ok := Search(list, lost); p != phys || n != rounds || ok != found {
		t.Fatalf("Search of %v with %v lost is %d, %d, %v, not %d, %d, %v", list, lost, p, n, ok, phys, rounds, found)
	}
	return found
}

// P18.2: many lists and rounds lost, against the document's words.
func TestSearchModel(t *testing.T) {
	random := rand.New(rand.NewSource(182))
	came := map[bool]int{}
	for range 4000 {
		list, lost := randomList(random), randomLost(random)
		if !name.Good(list) {
			t.Fatalf("Good of %v", list)
		}
		if len(lost) > 0 && random.Intn(2) == 0 {
			lost[0] = false
		}
		came[heldSearch(t, list, lost)]++
	}
	if came[true] < 500 || came[false] < 500 {
		t.Error(came)
	}
}

// P18.3: the document's example, and others that are written out.
func TestRun(t *testing.T) {
	two := []api.Slave{{Phys: 9}, {Phys: 4}}
	gaps := []api.Slave{{Phys: 9, Name: 2}, {Phys: 8}, {Phys: 7, Name: 4}, {Phys: 6}, {Phys: 5}}
	for _, c := range []struct {
		name string
		list []api.Slave
		most int
		lost []bool
		want []int
		n    int
		e    api.Errno
	}{
		{"the document's example", two, 254, nil, []int{2, 1}, 135, api.OK},
		{"nobody", nil, 254, nil, nil, 1, api.OK},
		{"nobody, and no room", nil, 0, nil, nil, 1, api.OK},
		{"nobody, and two rounds lost", nil, 254, allLost(2), nil, 3, api.OK},
		{"all have one", gaps[:1], 254, nil, []int{2}, 1, api.OK},
		{"all have one, and no room", gaps[:1], -1, nil, []int{2}, 1, api.OK},
		{"all have one, no room, and a round lost", gaps[:1], 0, allLost(1), []int{2}, 2, api.OK},
		{"no room", two, 0, nil, []int{0, 0}, 0, api.ErrFull},
		{"no room, and all lost", two, 0, allLost(9), []int{0, 0}, 0, api.ErrFull},
		{"less than no room", two, math.MinInt, nil, []int{0, 0}, 0, api.ErrFull},
		{"room without end", two, math.MaxInt, nil, []int{2, 1}, 135, api.OK},
		{"room for one", two, 1, nil, []int{0, 1}, 67, api.ErrFull},
		{"room for just two", two, 2, nil, []int{2, 1}, 135, api.OK},
		{"gaps", gaps, 9, nil, []int{2, 5, 4, 3, 1}, 202, api.OK},
		{"gaps, and one is left", gaps, 4, nil, []int{2, 0, 4, 3, 1}, 134, api.ErrFull},
		{"the ends of long names", []api.Slave{{Phys: top}, {Phys: 0}}, 254, nil, []int{2, 1}, 135, api.OK},
		{"the first round lost", two, 254, lostAt(1, 0), []int{2, 1}, 136, api.OK},
		{"three rounds lost", two, 254, allLost(3), []int{2, 1}, 138, api.OK},
		{"the last round of the first search lost", two, 254, lostAt(66, 65), []int{2, 1}, 201, api.OK},
		{"the round that tells the name lost", two, 254, lostAt(67, 66), []int{2, 1}, 135, api.OK},
		{"the first round of the second search lost", two, 254, lostAt(68, 67), []int{2, 1}, 136, api.OK},
		{"the very last round lost", two, 254, lostAt(135, 134), []int{2, 1}, 136, api.OK},
		{"the round behind all lost", two, 254, lostAt(136, 135), []int{2, 1}, 135, api.OK},
		{"the first half lost", two, 254, lostAt(2, 1), []int{2, 1}, 201, api.OK},
		// Who answers in the lost half is passed over, and one with a greater long name found in its place.
		{"the first half lost, and one at 2^63", []api.Slave{{Phys: 1 << 63}, {Phys: 4}}, 254, lostAt(2, 1), []int{1, 2}, 135, api.OK},
		{"so, with room for one", []api.Slave{{Phys: 1 << 63}, {Phys: 4}}, 1, lostAt(2, 1), []int{1, 0}, 67, api.ErrFull},
		{"all lost in the first search, and one there", []api.Slave{{Phys: top}, {Phys: 4}}, 254, slices.Concat(lostAt(1), allLost(64)), []int{1, 2}, 135, api.OK},
	} {
		want := slices.Clone(c.list)
		for i := range want {
			want[i].Name = c.want[i]
		}
		if l, n, e := Run(c.list, c.most, c.lost); !slices.Equal(l, want) || n != c.n || e != c.e {
			t.Errorf("%s: Run is %v, %d, %v, not %v, %d, %v", c.name, l, n, e, want, c.n, c.e)
		}
	}
}

// heldRun: is Run what the document's words tell, and are names as they have to be? It answers what is told.
func heldRun(t *testing.T, list []api.Slave, most int, lost []bool) ([]api.Slave, int, api.Errno) {
	t.Helper()
	want, rounds, due := run(list, most, lost)
	l, n, e := Run(list, most, lost)
	if !slices.Equal(l, want) || n != rounds || e != due {
		t.Fatalf("Run of %v up to %d with %v lost is %v, %d, %v, not %v, %d, %v", list, most, lost, l, n, e, want, rounds, due)
	}
	_, left := name.Least(l)
	if !name.Good(l) || left != (e == api.ErrFull) {
		t.Fatalf("Run of %v up to %d is %v, %v", list, most, l, e)
	}
	for i, s := range list {
		if l[i].Phys != s.Phys || s.Name != 0 && l[i].Name != s.Name {
			t.Fatalf("Run of %v changes %v to %v", list, s, l[i])
		}
	}
	return l, n, e
}

// P18.3, P18.4: each one round lost of a run, and each two near its beginning.
func TestRunLost(t *testing.T) {
	list := []api.Slave{{Phys: 4}, {Phys: 5}, {Phys: 3, Name: 2}, {Phys: 1 << 63}}
	for _, most := range []int{1, 3, 254} {
		for i := range 300 {
			heldRun(t, list, most, lostAt(300, i))
		}
		for i := range 70 {
			for k := range i {
				heldRun(t, list, most, lostAt(70, i, k))
			}
		}
	}
}

// P18.3, P18.4: so many first rounds lost.
func TestRunAllLost(t *testing.T) {
	list := []api.Slave{{Phys: 4}, {Phys: 5}, {Phys: 3, Name: 2}, {Phys: 1 << 63}}
	want := []api.Slave{{Phys: 4, Name: 1}, {Phys: 5, Name: 3}, {Phys: 3, Name: 2}, {Phys: 1 << 63, Name: 4}}
	for n := range 500 {
		if l, r, e := Run(list, 254, allLost(n)); !slices.Equal(l, want) || r != n+202 || e != api.OK {
			t.Fatalf("Run with %d rounds lost is %v, %d, %v", n, l, r, e)
		}
	}
}

// P18.3, P18.4: many lists, and rounds lost, against the document's words.
func TestRunModel(t *testing.T) {
	random := rand.New(rand.NewSource(183))
	told, moved := map[api.Errno]int{}, 0
	for range 1500 {
		list, most, lost := randomList(random), random.Intn(45)-5, randomLost(random)
		l, _, e := heldRun(t, list, most, lost)
		if other, _ := name.Assign(list, most); !slices.Equal(l, other) {
			moved++
		}
		told[e]++
	}
	// Some lost answers have to be such by which others are found than without them.
	if told[api.OK] < 100 || told[api.ErrFull] < 100 || moved < 20 {
		t.Error(told, moved)
	}
}

// heldAssign: where nothing is lost, is all as Assign has it, in 67 rounds for each, and one to hear that nobody is left?
func heldAssign(t *testing.T, list []api.Slave, most int) {
	t.Helper()
	want, due := name.Assign(list, most)
	rounds := 1
	if due == api.ErrFull {
		rounds = 0
	}
	for i, s := range want {
		if s != list[i] {
			rounds += 67
		}
	}
	for _, lost := range [][]bool{nil, lostAt(rounds), lostAt(3000)} {
		if l, n, e := Run(list, most, lost); !slices.Equal(l, want) || n != rounds || e != due {
			t.Fatalf("Run of %v up to %d is %v, %d, %v, not %v, %d, %v", list, most, l, n, e, want, rounds, due)
		}
	}
}

// P18.4: lists of all lengths with all that is the most, and many others, where nothing is lost.
func TestRunAssign(t *testing.T) {
	for n := range 33 {
		for most := -2; most <= 40; most++ {
			heldAssign(t, crowd(n), most)
		}
	}
	random := rand.New(rand.NewSource(184))
	for range 1000 {
		heldAssign(t, randomList(random), random.Intn(45)-5)
	}
}

// fill: a list with other things, spare room included.
func fill(list []api.Slave) {
	list = list[:cap(list)]
	for i := range list {
		list[i] = api.Slave{Phys: 77, Name: 77}
	}
}

// P18.1, P18.2, P18.3: what is handed in is not changed, spare room included; what is answered is nobody else's; nothing is kept.
func TestMemory(t *testing.T) {
	room := []api.Slave{{Phys: 9}, {Phys: 4}, {Phys: 7, Name: 1}, {Phys: 1}, {Phys: 1, Name: -5}}
	said := lostAt(70, 0, 68)
	was, lostWas := slices.Clone(room), slices.Clone(said)
	list, lost := room[:3], said[:68]
	want := []api.Slave{{Phys: 9, Name: 3}, {Phys: 4, Name: 2}, {Phys: 7, Name: 1}}
	for range 3 {
		if Answers(list, 3) || !Answers(list, 4) {
			t.Error("Answers")
		}
		if p, n, ok := Search(list, lost[1:]); p != 4 || n != 66 || !ok {
			t.Error("Search", p, n, ok)
		}
		one, n, e := Run(list, 9, lost)
		other, m, f := Run(list, 9, lost)
		if !slices.Equal(one, want) || !slices.Equal(other, want) || n != 136 || m != 136 || e != api.OK || f != api.OK {
			t.Error("Run", one, n, e, other, m, f)
		}
		fill(one)
		if !slices.Equal(other, want) {
			t.Error("two answers share", other)
		}
		full, n, e := Run(list, 1, lost)
		if !slices.Equal(full, list) || n != 0 || e != api.ErrFull {
			t.Error("Run without room", full, n, e)
		}
		fill(full)
		named, n, e := Run(list[2:], 1, nil)
		if !slices.Equal(named, list[2:]) || n != 1 || e != api.OK {
			t.Error("Run with nobody to name", named, n, e)
		}
		fill(named)
		empty, _, _ := Run(list[:0], 1, nil)
		fill(empty)
		if !slices.Equal(room, was) || !slices.Equal(said, lostWas) {
			t.Fatal("what was handed in is changed", room, said)
		}
	}
}

// R1: of lists that may not be nothing is promised, but each call ends.
func TestWild(t *testing.T) {
	long := slices.Concat(crowd(300), crowd(300), []api.Slave{{Phys: 5, Name: -1}, {Phys: 5, Name: 1 << 40}, {Phys: 5, Name: math.MinInt}})
	twice := []api.Slave{{Phys: 5, Name: 1}, {Phys: 5}, {Phys: 5, Name: 2}, {Phys: 5}}
	for _, list := range [][]api.Slave{long, twice} {
		for _, most := range []int{math.MinInt, -1, 0, 1, 254, 255, math.MaxInt} {
			for _, lost := range [][]bool{nil, allLost(100), lostAt(70, 1, 65, 67)} {
				Answers(list, 3)
				Search(list, lost)
				Run(list, most, lost)
			}
		}
	}
}
