package queue

import (
	"math"
	"math/rand"
	"testing"

	"hayward/api"
)

// nothing is a request without anything.
var nothing api.Request

// request: one that is like no other one of another number, in every field.
func request(n int) api.Request {
	return api.Request{
		ID: n, Kind: n + 1, Node: n + 2, File: n + 3, Rec: n + 4,
		Val: api.Rec{byte(n), byte(n + 1), byte(n + 2), byte(n + 3)},
		Key: n + 5,
	}
}

// push: that is let.
func push(t *testing.T, q *Queue, x api.Request) {
	t.Helper()
	n := q.Len()
	if e := q.Push(x); e != api.OK || q.Len() != n+1 {
		t.Fatalf("Push of %v is %v, and %d wait where %d did", x, e, q.Len(), n)
	}
}

// refused: Push is, and nothing has changed by that.
func refused(t *testing.T, q *Queue) {
	t.Helper()
	n := q.Len()
	was, _ := q.First()
	if e := q.Push(request(99)); e != api.ErrBusy || q.Len() != n {
		t.Fatalf("Push behind %d is %v, and %d wait", n, e, q.Len())
	}
	if x, ok := q.First(); x != was || !ok {
		t.Fatalf("behind a Push that was refused the first one is %v, not %v", x, was)
	}
}

// pop: that is the one that has waited longest.
func pop(t *testing.T, q *Queue, want api.Request) {
	t.Helper()
	n := q.Len()
	if x, ok := q.First(); x != want || !ok {
		t.Fatalf("First is %v, %v, not %v", x, ok, want)
	}
	if x, ok := q.Pop(); x != want || !ok || q.Len() != n-1 {
		t.Fatalf("Pop is %v, %v, not %v, and %d wait where %d did", x, ok, want, q.Len(), n)
	}
}

// vain: it was tried in vain, but may be tried again.
func vain(t *testing.T, q *Queue) {
	t.Helper()
	n := q.Len()
	was, _ := q.First()
	if x, ok := q.Fail(); x != nothing || ok || q.Len() != n {
		t.Fatalf("Fail of %v is %v, %v, and %d wait where %d did", was, x, ok, q.Len(), n)
	}
	if x, ok := q.First(); x != was || !ok {
		t.Fatalf("behind a Fail the first one is %v, not %v", x, was)
	}
}

// gone: it was tried in vain for the third time.
func gone(t *testing.T, q *Queue, want api.Request) {
	t.Helper()
	n := q.Len()
	if x, ok := q.Fail(); x != want || !ok || q.Len() != n-1 {
		t.Fatalf("Fail is %v, %v, not %v, and %d wait where %d did", x, ok, want, q.Len(), n)
	}
}

// none: nobody waits, and no call but Push makes anybody wait.
func none(t *testing.T, q *Queue) {
	t.Helper()
	for range 2*api.Retries + 1 {
		if x, ok := q.First(); x != nothing || ok {
			t.Fatalf("First of none is %v, %v", x, ok)
		}
		if x, ok := q.Pop(); x != nothing || ok {
			t.Fatalf("Pop of none is %v, %v", x, ok)
		}
		if x, ok := q.Fail(); x != nothing || ok {
			t.Fatalf("Fail of none is %v, %v", x, ok)
		}
		if q.Len() != 0 {
			t.Fatalf("%d wait, and none should", q.Len())
		}
	}
}

// words is requests that wait by the document's words, one behind the other, each with how often it was tried.
type words struct {
	list  []api.Request
	tries []int
}

func (w *words) Push(x api.Request) api.Errno {
	if len(w.list) == 8 {
		return api.ErrBusy
	}
	w.list, w.tries = append(w.list, x), append(w.tries, 0)
	return api.OK
}

func (w *words) First() (api.Request, bool) {
	if len(w.list) == 0 {
		return nothing, false
	}
	return w.list[0], true
}

func (w *words) Pop() (api.Request, bool) {
	x, ok := w.First()
	if ok {
		w.list, w.tries = w.list[1:], w.tries[1:]
	}
	return x, ok
}

func (w *words) Fail() (api.Request, bool) {
	if len(w.list) == 0 {
		return nothing, false
	}
	w.tries[0]++
	if w.tries[0] == 3 {
		return w.Pop()
	}
	return nothing, false
}

// acts: what may be done to requests that wait, but for asking.
const acts = 3

// act: the same is done to both, and both answer the same, behind it as well.
func act(t *testing.T, q *Queue, w *words, kind, n int) {
	t.Helper()
	switch kind {
	case 0:
		if e, f := q.Push(request(n)), w.Push(request(n)); e != f {
			t.Fatalf("Push behind %d is %v, not %v", len(w.list), e, f)
		}
	case 1:
		x, ok := q.Pop()
		if y, is := w.Pop(); x != y || ok != is {
			t.Fatalf("Pop is %v, %v, not %v, %v", x, ok, y, is)
		}
	default:
		x, ok := q.Fail()
		if y, is := w.Fail(); x != y || ok != is {
			t.Fatalf("Fail is %v, %v, not %v, %v", x, ok, y, is)
		}
	}
	same(t, q, w)
}

// same: what may be asked is the same of both.
func same(t *testing.T, q *Queue, w *words) {
	t.Helper()
	x, ok := q.First()
	if y, is := w.First(); x != y || ok != is || q.Len() != len(w.list) {
		t.Fatalf("First is %v, %v, not %v, %v, and %d wait, not %d", x, ok, y, is, q.Len(), len(w.list))
	}
}

// Promise: all calls of a nil one answer ErrArg, nothing and false, or 0.
func TestNil(t *testing.T) {
	var q *Queue
	for range 2*api.MaxQueue + 1 {
		for _, x := range []api.Request{nothing, request(1), {ID: math.MinInt, Key: math.MaxInt}} {
			if e := q.Push(x); e != api.ErrArg {
				t.Error(e)
			}
		}
		none(t, q)
	}
}

// P22.1: by New none waits, and no two have anything in common.
func TestNew(t *testing.T) {
	one, two := New(), New()
	if one == nil || two == nil || one == two {
		t.Fatal("New answers no new one")
	}
	none(t, one)
	push(t, one, request(1))
	vain(t, one)
	none(t, two)
	none(t, New())
	push(t, two, request(2))
	vain(t, two)
	vain(t, two)
	gone(t, two, request(2))
	vain(t, one)
	gone(t, one, request(1))
	none(t, one)
}

// P22.1: whoever waits, waits behind all others; eight may wait, and no ninth one, wherever the ring begins.
func TestOrder(t *testing.T) {
	for ahead := range 3 * api.MaxQueue {
		for many := range api.MaxQueue + 1 {
			q := New()
			for n := range ahead {
				push(t, q, request(1000+n))
				pop(t, q, request(1000+n))
			}
			for n := range many {
				push(t, q, request(n))
				if x, ok := q.First(); x != request(0) || !ok {
					t.Fatal(ahead, many, n, x, ok)
				}
			}
			if many == 8 {
				refused(t, q)
				refused(t, q)
			}
			for n := range many {
				pop(t, q, request(n))
			}
			none(t, q)
		}
	}
}

// P22.1: where one of eight is gone one more may wait, and just one.
func TestFull(t *testing.T) {
	q := New()
	for n := range api.MaxQueue {
		push(t, q, request(n))
	}
	for n := range 50 {
		refused(t, q)
		if n%2 == 0 {
			pop(t, q, request(n))
		} else {
			vain(t, q)
			refused(t, q)
			vain(t, q)
			refused(t, q)
			gone(t, q, request(n))
		}
		push(t, q, request(n+api.MaxQueue))
	}
	refused(t, q)
	for n := range api.MaxQueue {
		pop(t, q, request(50+n))
	}
	none(t, q)
}

// P22.1: any request waits, one that may not be and one without anything as well, and two that are the same.
func TestAny(t *testing.T) {
	ends := []int{math.MinInt, math.MinInt + 1, -1 << 32, -1, 0, 1, 31, 32, 255, 256, 65535, 65536, 1 << 32, math.MaxInt}
	for _, n := range ends {
		q := New()
		list := []api.Request{
			nothing, {ID: n}, {Kind: n}, {Node: n}, {File: n}, {Rec: n}, {Key: n}, {Val: api.Rec{byte(n), 0, 0, byte(n)}},
		}
		for _, x := range list {
			push(t, q, x)
		}
		refused(t, q)
		for _, x := range list {
			pop(t, q, x)
		}
		none(t, q)
		push(t, q, list[1])
		push(t, q, list[1])
		pop(t, q, list[1])
		push(t, q, nothing)
		pop(t, q, list[1])
		vain(t, q)
		vain(t, q)
		gone(t, q, nothing)
		none(t, q)
	}
}

// P22.1: who asks for the first one changes nothing.
func TestFirst(t *testing.T) {
	q := New()
	push(t, q, request(1))
	push(t, q, request(2))
	for range 20 {
		if x, ok := q.First(); x != request(1) || !ok || q.Len() != 2 {
			t.Fatal(x, ok, q.Len())
		}
	}
	x, _ := q.First()
	x.ID, x.Val[0] = 7, 7 // what was answered is whoever asked's own
	pop(t, q, request(1))
	pop(t, q, request(2))
}

// P22.2: the third try in vain is the last one.
func TestFail(t *testing.T) {
	q := New()
	push(t, q, request(1))
	vain(t, q)
	vain(t, q)
	gone(t, q, request(1))
	none(t, q)
	for n := range 3 * api.MaxQueue { // what was tried of one is not told of the next one, nor of a later one in its place
		push(t, q, request(n))
		vain(t, q)
		vain(t, q)
		gone(t, q, request(n))
	}
	none(t, q)
}

// P22.2: of each one by itself: of one that was Popped nothing is told, wherever the next one is, and the same one may come again.
func TestTries(t *testing.T) {
	for tried := range api.Retries {
		for many := range api.MaxQueue {
			q := New()
			for n := range many + 1 {
				push(t, q, request(n))
			}
			for n := range 4 * api.MaxQueue {
				for range tried {
					vain(t, q)
				}
				pop(t, q, request(n))
				push(t, q, request(n+many+1))
			}
			for n := range many + 1 {
				vain(t, q)
				vain(t, q)
				gone(t, q, request(4*api.MaxQueue+n))
			}
			none(t, q)
		}
	}
	q := New()
	push(t, q, request(1))
	vain(t, q)
	vain(t, q)
	pop(t, q, request(1))
	push(t, q, request(1))
	vain(t, q)
	vain(t, q)
	gone(t, q, request(1))
}

// P22.2: between the tries of one others may come, or be refused, and it may be asked for; its tries stay.
func TestBetween(t *testing.T) {
	for many := range api.MaxQueue {
		q := New()
		push(t, q, request(0))
		for n := range many {
			push(t, q, request(n+1))
		}
		vain(t, q)
		for n := many + 1; n < api.MaxQueue; n++ {
			push(t, q, request(n))
		}
		vain(t, q)
		refused(t, q)
		gone(t, q, request(0))
		vain(t, q)
		pop(t, q, request(1))
		vain(t, q)
		vain(t, q)
		gone(t, q, request(2))
	}
}

// P22.1, P22.2: all scripts of seven acts, behind each number of requests that wait, wherever the ring then begins.
func TestScripts(t *testing.T) {
	for ahead := range api.MaxQueue {
		for many := range api.MaxQueue + 1 {
			scripts(t, ahead, many, 7)
		}
	}
}

// scripts: all that are so long, where so many have waited and were gone, and so many wait.
func scripts(t *testing.T, ahead, many, long int) {
	t.Helper()
	all := 1
	for range long {
		all *= acts
	}
	for script := range all {
		q, w := New(), &words{}
		for n := range ahead {
			act(t, q, w, 0, n)
			act(t, q, w, 1, n)
		}
		for n := range many {
			act(t, q, w, 0, n)
		}
		for n := range long {
			act(t, q, w, script%acts, 100+n)
			script /= acts
		}
	}
}

// P22.1, P22.2: long scripts, of which some push more than they take out; and the same calls answer the same.
func TestRandom(t *testing.T) {
	for seed := range int64(300) {
		r := rand.New(rand.NewSource(seed))
		q, twin, w, twins := New(), New(), &words{}, &words{}
		more := r.Intn(4)
		for n := range 1000 {
			kind := max(0, r.Intn(acts+more)-more)
			act(t, q, w, kind, n)
			act(t, twin, twins, kind, n)
		}
		for len(w.list) > 0 {
			act(t, q, w, 1+r.Intn(2), 0)
		}
		none(t, q)
	}
}
