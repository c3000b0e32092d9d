package wire

import (
	"math"
	"math/rand"
	"slices"
	"testing"

	"hayward/api"
)

const far = 1 << 40

// spans: each two numbers are a span.
func spans(n ...int) []api.Span {
	var out []api.Span
	for i := 0; i+1 < len(n); i += 2 {
		out = append(out, api.Span{From: n[i], To: n[i+1]})
	}
	return out
}

// P2.1: the document's example, and edges.
func TestJoin(t *testing.T) {
	for _, c := range []struct {
		name  string
		lists [][]api.Span
		want  []api.Span
	}{
		{"nothing", nil, nil},
		{"nil", [][]api.Span{nil}, nil},
		{"empty and nil", [][]api.Span{{}, nil}, nil},
		{"example", [][]api.Span{spans(0, 5), spans(5, 8)}, spans(0, 8)},
		{"example in one list", [][]api.Span{spans(0, 5, 5, 8)}, spans(0, 8)},
		{"example turned", [][]api.Span{spans(5, 8), spans(0, 5)}, spans(0, 8)},
		{"one tick between", [][]api.Span{spans(0, 5), spans(6, 8)}, spans(0, 5, 6, 8)},
		{"one tick shared", [][]api.Span{spans(0, 5), spans(4, 8)}, spans(0, 8)},
		{"same", [][]api.Span{spans(3, 9), spans(3, 9)}, spans(3, 9)},
		{"same beginning, short first", [][]api.Span{spans(3, 5), spans(3, 9)}, spans(3, 9)},
		{"same beginning, long first", [][]api.Span{spans(3, 9), spans(3, 5)}, spans(3, 9)},
		{"within", [][]api.Span{spans(0, 20), spans(3, 5)}, spans(0, 20)},
		{"within, and behind", [][]api.Span{spans(0, 20), spans(3, 5, 18, 25)}, spans(0, 25)},
		{"not sorted", [][]api.Span{spans(9, 12, 0, 5, 6, 7)}, spans(0, 5, 6, 7, 9, 12)},
		{"three lists", [][]api.Span{spans(8, 9), spans(2, 4), spans(4, 8)}, spans(2, 9)},
		{"no ticks", [][]api.Span{spans(3, 3), spans(5, 4)}, nil},
		{"no ticks between two", [][]api.Span{spans(0, 2, 2, 2, 4, 3, 3, 4)}, spans(0, 2, 3, 4)},
		{"no ticks, far back", [][]api.Span{spans(7, 9), spans(far, -far)}, spans(7, 9)},
		{"no ticks bridge nothing", [][]api.Span{spans(0, 2, 9, 2, 5, 6)}, spans(0, 2, 5, 6)},
		{"below 0", [][]api.Span{spans(-4, -1), spans(-2, 0)}, spans(-4, 0)},
		{"all", [][]api.Span{spans(-far, far), spans(0, 1)}, spans(-far, far)},
		{"ends", [][]api.Span{spans(far-1, far), spans(-far, -far+1)}, spans(-far, -far+1, far-1, far)},
		{"ends of int", [][]api.Span{spans(math.MaxInt-1, math.MaxInt, math.MinInt, 0)}, spans(math.MinInt, 0, math.MaxInt-1, math.MaxInt)},
	} {
		if got := Join(c.lists...); !slices.Equal(got, c.want) {
			t.Errorf("%s: Join is %v", c.name, got)
		}
	}
}

// P2.2.
func TestHigh(t *testing.T) {
	list := spans(5, 7, 2, 5, 10, 12, 11, 12, 20, 20, 30, 25)
	for at := -3; at < 40; at++ {
		want := at < 2 || at == 7 || at == 8 || at == 9 || at >= 12
		if High(list, at) != want {
			t.Errorf("at %d High is %v", at, !want)
		}
	}
	whole := spans(math.MinInt, math.MaxInt)
	for _, c := range []struct {
		name string
		list []api.Span
		t    int
		want bool
	}{
		{"nil", nil, 0, true},
		{"empty", []api.Span{}, math.MinInt, true},
		{"ahead of the first tick", spans(-far, far), -far - 1, true},
		{"the first tick", spans(-far, far), -far, false},
		{"the last tick", spans(-far, far), far - 1, false},
		{"behind the last tick", spans(-far, far), far, true},
		{"least", whole, math.MinInt, false},
		{"greatest but one", whole, math.MaxInt - 1, false},
		{"greatest", whole, math.MaxInt, true},
		{"turned", spans(math.MaxInt, math.MinInt), 0, true},
	} {
		if got := High(c.list, c.t); got != c.want {
			t.Errorf("%s: High is %v", c.name, got)
		}
	}
}

// P2.2.
func TestFall(t *testing.T) {
	list := spans(10, 12, 5, 7, 2, 5)
	for _, c := range []struct {
		name     string
		list     []api.Span
		from, to int
		at       int
		ok       bool
	}{
		{"nil", nil, -far, far, 0, false},
		{"first of all", list, -far, far, 2, true},
		{"from its tick on", list, 2, 14, 2, true},
		{"ahead of the next tick", list, 2, 3, 2, true},
		{"ahead of its tick", list, 0, 2, 0, false},
		{"low from the beginning on", list, 3, 14, 10, true},
		{"where two spans touch", list, 5, 6, 0, false},
		{"up to the next one", list, 3, 10, 0, false},
		{"behind the next one", list, 3, 11, 10, true},
		{"within the last one", list, 11, far, 0, false},
		{"no ticks to look at", list, 2, 2, 0, false},
		{"to ahead of from", list, 10, 2, 0, false},
		{"at 0", spans(0, 1), -5, 5, 0, true},
		{"below 0", spans(-7, -6), -8, 0, -7, true},
		{"begins within another one", spans(0, 9, 4, 20), 1, 30, 0, false},
		{"no ticks", spans(4, 4, 6, 5), 0, 9, 0, false},
		{"no ticks ahead of one", spans(4, 4, 6, 7), 0, 9, 6, true},
		{"no ticks touch one", spans(6, 6, 6, 7), 0, 9, 6, true},
		{"no ticks end at one", spans(2, -9, 6, 7, 8, 6), 0, 9, 6, true},
		{"first tick", spans(-far, far), -far, far, -far, true},
		{"behind the first tick", spans(-far, far), -far + 1, far, 0, false},
		{"last tick", spans(far-1, far), -far, far, far - 1, true},
		{"ahead of the last tick", spans(far-1, far), -far, far - 1, 0, false},
	} {
		if at, ok := Fall(c.list, c.from, c.to); at != c.at || ok != c.ok {
			t.Errorf("%s: Fall is %d, %v", c.name, at, ok)
		}
	}
}

// P2.2.
func TestMeet(t *testing.T) {
	for _, c := range []struct {
		name string
		a, b []api.Span
		want bool
	}{
		{"nil", nil, nil, false},
		{"one is empty", nil, spans(-far, far), false},
		{"touch", spans(0, 5), spans(5, 9), false},
		{"one tick", spans(0, 5), spans(4, 9), true},
		{"within", spans(0, 9), spans(3, 4), true},
		{"same", spans(3, 4), spans(3, 4), true},
		{"no ticks", spans(0, 9), spans(4, 3, 5, 5), false},
		{"no ticks, far back", spans(0, 9, 12, 15), spans(20, -20), false},
		{"no ticks, twice", spans(4, 4), spans(4, 4), false},
		{"between", spans(0, 2, 4, 6), spans(2, 4, 6, 8), false},
		{"between, one tick", spans(0, 2, 4, 6), spans(2, 5, 6, 8), true},
		{"not sorted", spans(20, 22, 0, 2), spans(8, 9, 5, 6, 21, 30), true},
		{"not sorted, apart", spans(20, 22, 0, 2), spans(8, 9, 2, 6, 22, 30), false},
		{"low only within one list", spans(0, 5, 3, 8), spans(9, 12, 10, 14), false},
		{"ends", spans(-far, far), spans(far-1, far), true},
		{"ends of int", spans(math.MinInt, math.MaxInt), spans(math.MaxInt-1, math.MaxInt), true},
		{"ends of int touch", spans(math.MinInt, 0), spans(0, math.MaxInt), false},
		{"ends of int turned", spans(math.MaxInt, math.MinInt), spans(math.MinInt, math.MaxInt), false},
	} {
		if Meet(c.a, c.b) != c.want || Meet(c.b, c.a) != c.want {
			t.Errorf("%s: Meet is %v, and %v", c.name, Meet(c.a, c.b), Meet(c.b, c.a))
		}
	}
}

// low: the ticks from 0 up to 40 at which one of the lists is low, as the words have it.
func low(lists ...[]api.Span) [40]bool {
	var out [40]bool
	for _, list := range lists {
		for _, s := range list {
			for at := s.From; at < s.To; at++ {
				out[at] = true
			}
		}
	}
	return out
}

// some: so many spans within the ticks from 1 up to 39, some of them without ticks.
func some(r *rand.Rand, n int) []api.Span {
	list := make([]api.Span, n)
	for i := range list {
		from := 1 + r.Intn(38)
		list[i] = api.Span{From: from, To: min(39, from+r.Intn(9)-2)}
	}
	return list
}

func isPlain(list []api.Span) bool {
	for i, s := range list {
		if s.From >= s.To || i > 0 && s.From <= list[i-1].To {
			return false
		}
	}
	return true
}

// P2.1, P2.2: tick by tick, as the words have it.
func TestByTicks(t *testing.T) {
	r := rand.New(rand.NewSource(2))
	for range 3000 {
		a, b, c := some(r, r.Intn(5)), some(r, r.Intn(5)), some(r, r.Intn(3))
		plain, is := Join(a, b, c), low(a, b, c)
		if !isPlain(plain) || low(plain) != is {
			t.Fatalf("Join of %v, %v and %v is %v", a, b, c, plain)
		}
		all := slices.Concat(c, b, a)
		for at := range is {
			if High(all, at) == is[at] {
				t.Fatalf("%v at %d: High is %v", all, at, is[at])
			}
		}
		from, to := r.Intn(40), r.Intn(41)
		want, found := 0, false
		for at := max(1, from); at < to && !found; at++ {
			if is[at] && !is[at-1] {
				want, found = at, true
			}
		}
		if at, ok := Fall(all, from, to); at != want || ok != found {
			t.Fatalf("%v from %d to %d: Fall is %d, %v", all, from, to, at, ok)
		}
		both, la, lb := false, low(a), low(b)
		for at := range la {
			both = both || la[at] && lb[at]
		}
		if Meet(a, b) != both || Meet(b, a) != both {
			t.Fatalf("%v and %v: Meet is %v", a, b, !both)
		}
	}
}

// R1: the calls answer at spans and ticks at the ends of int, too.
func TestAnySpans(t *testing.T) {
	ends := []int{math.MinInt, math.MinInt + 1, -1, 0, 1, math.MaxInt - 1, math.MaxInt}
	var list []api.Span
	for _, from := range ends {
		for _, to := range ends {
			list = append(list, api.Span{From: from, To: to})
			for _, at := range ends {
				High(list, at)
				Fall(list, at, from)
			}
			Meet(list, spans(from, to))
		}
	}
	if got := Join(list); !slices.Equal(got, spans(math.MinInt, math.MaxInt)) {
		t.Error(got)
	}
}

// R4: what is handed in stays, its spare room included.
func TestSpansStay(t *testing.T) {
	room := spans(9, 12, 0, 5, 4, 4, 5, 7)
	lists := [][]api.Span{room[:2], room[:3]}
	was := slices.Clone(room)
	Join(lists...)
	High(room[:2], 3)
	Fall(room[:2], 0, 20)
	Meet(room[:2], room[:3])
	if !slices.Equal(room, was) {
		t.Error(room)
	}
	if len(lists[0]) != 2 || len(lists[1]) != 3 {
		t.Error(lists)
	}
}

// R4: what is answered shares nothing with what was handed in, nor with another answer.
func TestJoinIsNew(t *testing.T) {
	list := spans(1, 2, 4, 5)
	was := slices.Clone(list)
	one, other := Join(list), Join(list)
	one = one[:cap(one)]
	for i := range one {
		one[i] = api.Span{From: 77, To: 78}
	}
	_ = append(one[:1], spans(80, 81)...)
	if !slices.Equal(list, was) || !slices.Equal(other, was) {
		t.Error(list, other)
	}
}
