package watch

import (
	"math"
	"math/rand"
	"testing"

	"hayward/api"
)

// wild: numbers that are no master's; some of them would be one, if they were cut to a bit, a byte or to 32 bits.
var wild = []int{math.MinInt, math.MinInt + 1, -1 << 32, -1<<32 + 1, -256, -255, -3, -2, -1, 2, 3, 4, 5, 8, 255, 256, 257, 1 << 16, 1 << 32, 1<<32 + 1, 1 << 62, math.MaxInt - 1, math.MaxInt}

// roles: both masters are that.
func roles(t *testing.T, p *Pair, zero, one int) {
	t.Helper()
	if p.Role(0) != zero || p.Role(1) != one {
		t.Fatalf("the masters are %d and %d, not %d and %d", p.Role(0), p.Role(1), zero, one)
	}
}

// crash, restart: that is let.
func crash(t *testing.T, p *Pair, n int) {
	t.Helper()
	if e := p.Crash(n); e != api.OK || p.Role(n) != api.Down {
		t.Fatalf("Crash of %d is %v, and it is %d", n, e, p.Role(n))
	}
}

func restart(t *testing.T, p *Pair, n int) {
	t.Helper()
	if e := p.Restart(n); e != api.OK || p.Role(n) != api.Listen {
		t.Fatalf("Restart of %d is %v, and it is %d", n, e, p.Role(n))
	}
}

// opened: so many silent rounds go by, and behind them one opens the round.
func opened(t *testing.T, p *Pair, silent, by int) {
	t.Helper()
	for i := range silent {
		if n := p.Round(); n != -1 {
			t.Fatalf("behind %d silent rounds %d opens one, not behind %d", i, n, silent)
		}
	}
	if n := p.Round(); n != by || p.Role(by) != api.Active {
		t.Fatalf("behind %d silent rounds Round is %d, not %d, which is %d", silent, n, by, p.Role(by))
	}
}

// words is two masters by the document's words: how long one has been silent is worked out from when what happened.
type words struct {
	now    int // rounds that went by
	opened int // behind which of them the last one was opened
	role   [2]int
	became [2]int // behind which round it became that
}

func wordsNew() words {
	return words{role: [2]int{api.Active, api.Shadow}}
}

func (w *words) becomes(n, role int) {
	w.role[n], w.became[n] = role, w.now
}

func (w *words) silent(n int) int {
	return w.now - max(w.became[n], w.opened)
}

func (w *words) active() int {
	for n, role := range w.role {
		if role == api.Active {
			return n
		}
	}
	return -1
}

func (w *words) Round() int {
	for n := 0; n < 2 && w.active() < 0; n++ {
		if w.role[n] == api.Shadow && w.silent(n) >= 4 || w.role[n] == api.Listen && w.silent(n) >= 8+n {
			w.becomes(n, api.Active)
		}
	}
	w.now++
	if w.active() < 0 {
		return -1
	}
	w.opened = w.now
	for n := range 2 {
		if w.role[n] == api.Listen {
			w.becomes(n, api.Shadow)
		}
	}
	return w.active()
}

// turns: one that is down is restarted, else it crashes.
func (w *words) turns(n int) {
	if w.role[n] == api.Down {
		w.becomes(n, api.Listen)
	} else {
		w.becomes(n, api.Down)
	}
}

// same: both have the same masters, of which one at most is active.
func same(t *testing.T, p *Pair, w *words) {
	if p.Role(0) != w.role[0] || p.Role(1) != w.role[1] {
		t.Fatalf("the masters are %d and %d, not %v", p.Role(0), p.Role(1), w.role)
	}
	if p.Role(0) == api.Active && p.Role(1) == api.Active {
		t.Fatal("both are active")
	}
}

// round: a round, of both, is the same.
func round(t *testing.T, p *Pair, w *words) {
	if n, want := p.Round(), w.Round(); n != want {
		t.Fatalf("Round is %d, not %d, with masters %d and %d", n, want, w.role[0], w.role[1])
	}
	same(t, p, w)
}

// turn: one that is down is restarted, else it crashes, of both; what is not let then changes nothing.
func turn(t *testing.T, p *Pair, w *words, n int) {
	let, refused := p.Crash, p.Restart
	if w.role[n] == api.Down {
		let, refused = p.Restart, p.Crash
	}
	was := *p
	if e := refused(n); e != api.ErrState || *p != was {
		t.Fatalf("what is not let of %d is %v, and %v is %v", n, e, was, *p)
	}
	w.turns(n)
	if e := let(n); e != api.OK {
		t.Fatalf("what is let of %d is %v", n, e)
	}
	same(t, p, w)
}

// latest: behind how many silent rounds one is opened at the latest, if nobody crashes; below 0: nothing is promised.
func latest(p *Pair) int {
	switch zero, one := p.Role(0), p.Role(1); {
	case zero == api.Active || one == api.Active:
		return 0
	case zero == api.Shadow || one == api.Shadow:
		return 4
	case zero == api.Listen && one == api.Listen:
		return 8
	}
	return -1
}

// inTime: a round is opened in time, whoever is restarted meanwhile.
func inTime(t *testing.T, p Pair, restarted int) {
	most := latest(&p)
	if most < 0 {
		return
	}
	for i := 0; p.Round() < 0; i++ {
		if i == restarted {
			p.Restart(0)
			p.Restart(1)
		}
		if i == most {
			t.Fatalf("no round is opened behind %d silent ones", most)
		}
	}
}

// P19.1: what New has.
func TestNew(t *testing.T) {
	p := New()
	roles(t, p, 1, 2)
	for range 20 {
		opened(t, p, 0, 0)
		roles(t, p, 1, 2)
	}
}

// P19.1: no other number is a master's, and asking for one changes nothing.
func TestWild(t *testing.T) {
	p, w := New(), wordsNew()
	for i := range 40 {
		for _, n := range wild {
			if p.Role(n) != 0 || p.Crash(n) != api.ErrArg || p.Restart(n) != api.ErrArg {
				t.Errorf("of %d: %d, %v, %v", n, p.Role(n), p.Crash(n), p.Restart(n))
			}
		}
		same(t, p, &w)
		switch i {
		case 1, 3:
			turn(t, p, &w, 0)
		case 12:
			turn(t, p, &w, 1)
		}
		round(t, p, &w)
	}
}

// P19.1: who is down already, and who is not.
func TestStates(t *testing.T) {
	p := New()
	refused := func(of func(n int) api.Errno, n int) {
		t.Helper()
		was := *p
		if e := of(n); e != api.ErrState || *p != was {
			t.Errorf("of %d: %v, and %v is %v", n, e, was, *p)
		}
	}
	refused(p.Restart, 0) // active
	refused(p.Restart, 1) // a shadow
	crash(t, p, 1)
	roles(t, p, 1, 4)
	refused(p.Crash, 1)
	restart(t, p, 1)
	roles(t, p, 1, 3)
	refused(p.Restart, 1) // listens
	crash(t, p, 1)
	refused(p.Crash, 1)
	crash(t, p, 0)
	roles(t, p, 4, 4)
	refused(p.Crash, 0)
	restart(t, p, 0)
	refused(p.Restart, 0)
	opened(t, p, 8, 0)
	roles(t, p, 1, 4)
}

// P19.2: the document's example; and the same with the other one, however many rounds were opened ahead.
func TestTakeover(t *testing.T) {
	for _, ahead := range []int{0, 1, 3, 4, 5, 8, 100} {
		p := New()
		for range ahead {
			opened(t, p, 0, 0)
		}
		crash(t, p, 0)
		opened(t, p, 4, 1)
		roles(t, p, 4, 1)
		restart(t, p, 0)
		roles(t, p, 3, 1)
		opened(t, p, 0, 1)
		roles(t, p, 2, 1)
		for range ahead {
			opened(t, p, 0, 1)
		}
		crash(t, p, 1)
		opened(t, p, 4, 0)
		roles(t, p, 1, 4)
	}
}

// P19.2: who comes back ahead of the takeover listens, and the shadow does not wait longer for it.
func TestBackInTime(t *testing.T) {
	for at := range 4 {
		p := New()
		crash(t, p, 0)
		for range at {
			if n := p.Round(); n != -1 {
				t.Fatal(at, n)
			}
		}
		restart(t, p, 0)
		roles(t, p, 3, 2)
		opened(t, p, 4-at, 1)
		roles(t, p, 2, 1)
		// As a shadow it has been silent for no round.
		crash(t, p, 1)
		opened(t, p, 4, 0)
	}
}

// P19.2: one alone that listens; what went by while it was down is nothing to it.
func TestListenAlone(t *testing.T) {
	for _, down := range []int{0, 1, 7, 8, 9, 1000} {
		for n := range 2 {
			p := New()
			crash(t, p, 0)
			crash(t, p, 1)
			for range down {
				if n := p.Round(); n != -1 {
					t.Fatal(down, n)
				}
			}
			roles(t, p, 4, 4)
			restart(t, p, n)
			opened(t, p, 8+n, n)
			opened(t, p, 0, n)
			if p.Role(1-n) != api.Down {
				t.Errorf("the other one is %d", p.Role(1-n))
			}
		}
	}
}

// P19.2: both listen: by how much one of them was ahead tells who opens.
func TestListenBoth(t *testing.T) {
	for ahead := range 8 {
		for n := range 2 {
			p := New()
			crash(t, p, 0)
			crash(t, p, 1)
			restart(t, p, n)
			for range ahead {
				p.Round()
			}
			restart(t, p, 1-n)
			roles(t, p, 3, 3)
			// Master 1 has to be silent for one round more; where both have been for long enough, master 0 is the first one.
			switch {
			case n == 0:
				opened(t, p, 8-ahead, 0)
				roles(t, p, 1, 2)
			case ahead <= 1:
				opened(t, p, 8, 0)
				roles(t, p, 1, 2)
			default:
				opened(t, p, 9-ahead, 1)
				roles(t, p, 2, 1)
			}
		}
	}
}

// P19.2: one that listens hears a round that is opened, and is a shadow from then on, but not ahead of it.
func TestHear(t *testing.T) {
	for n := range 2 {
		p := New()
		if n == 0 {
			crash(t, p, 0)
			opened(t, p, 4, 1)
		} else {
			crash(t, p, 1)
		}
		restart(t, p, n)
		crash(t, p, 1-n)
		opened(t, p, 8+n, n)
		restart(t, p, 1-n)
		crash(t, p, 1-n)
		restart(t, p, 1-n)
		opened(t, p, 0, n)
		if p.Role(1-n) != api.Shadow {
			t.Errorf("%d is %d", 1-n, p.Role(1-n))
		}
		crash(t, p, n)
		opened(t, p, 4, 1-n)
	}
}

// P19.1, P19.2, P19.3: all scripts of up to five crashes and restarts, with up to nine rounds ahead of each of four, and up to ten ahead of the last one.
func TestAllScripts(t *testing.T) {
	var walk func(p Pair, w words, turns int)
	walk = func(p Pair, w words, turns int) {
		for i := range 11 {
			inTime(t, p, i%4)
			for n := range 2 {
				q, v := p, w
				turn(t, &q, &v, n)
				if i < 10 && turns > 1 {
					walk(q, v, turns-1)
				}
			}
			round(t, &p, &w)
		}
	}
	walk(*New(), wordsNew(), 5)
}

// P19.1, P19.2, P19.3: long scripts.
func TestLongScripts(t *testing.T) {
	random := rand.New(rand.NewSource(19))
	for range 300 {
		p, w := New(), wordsNew()
		often := 2 + random.Intn(30)
		for range 1000 {
			if random.Intn(often) == 0 {
				turn(t, p, &w, random.Intn(2))
			} else {
				round(t, p, &w)
			}
			inTime(t, *p, random.Intn(8))
		}
	}
}

// All calls of a nil one, and of one that New has not made.
func TestNil(t *testing.T) {
	var p *Pair
	for _, n := range append([]int{0, 1}, wild...) {
		if p.Round() != -1 || p.Crash(n) != api.ErrArg || p.Restart(n) != api.ErrArg || p.Role(n) != 0 {
			t.Errorf("of %d: %d, %v, %v, %d", n, p.Round(), p.Crash(n), p.Restart(n), p.Role(n))
		}
		q := new(Pair)
		q.Role(n)
		q.Round()
		q.Crash(n)
		q.Restart(n)
		q.Round()
	}
}

// R4, R5: two that New made have nothing of each other.
func TestApart(t *testing.T) {
	p, q := New(), New()
	crash(t, p, 0)
	opened(t, q, 0, 0)
	roles(t, q, 1, 2)
	opened(t, p, 4, 1)
	crash(t, q, 1)
	roles(t, p, 4, 1)
	roles(t, New(), 1, 2)
	opened(t, New(), 0, 0)
}
