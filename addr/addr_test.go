package addr

import (
	"math"
	"testing"

	"hayward/api"
)

// ends: numbers that are no operation, no file and no record; some of them would be, if they were cut to a byte or to 32 bits.
var ends = []int{math.MinInt, math.MinInt + 1, -1 << 32, -256, -255, -64, -2, -1, 256, 257, 512, 1 << 16, 1 << 32, 1<<32 + 1, 1 << 40, math.MaxInt - 1, math.MaxInt}

// P8.1: the document's example, and addresses written out.
func TestPut(t *testing.T) {
	for _, c := range []struct {
		name string
		a    api.Addr
		want [2]byte
	}{
		{"example", api.Addr{Op: api.OpWrite, File: 3, Rec: 7}, [2]byte{67, 7}},
		{"the first", api.Addr{}, [2]byte{0, 0}},
		{"the last to read", api.Addr{Op: api.OpRead, File: 63, Rec: 255}, [2]byte{63, 255}},
		{"the first to write", api.Addr{Op: api.OpWrite}, [2]byte{64, 0}},
		{"the last to write", api.Addr{Op: api.OpWrite, File: 63, Rec: 255}, [2]byte{127, 255}},
		{"the first to execute", api.Addr{Op: api.OpExec}, [2]byte{128, 0}},
		{"the last to execute", api.Addr{Op: api.OpExec, File: 63, Rec: 255}, [2]byte{191, 255}},
		{"a file alone", api.Addr{File: 9}, [2]byte{9, 0}},
		{"a record alone", api.Addr{Rec: 128}, [2]byte{0, 128}},
	} {
		if !Good(c.a) {
			t.Errorf("%s: may not be", c.name)
		}
		if b, e := Put(c.a); b != c.want || e != api.OK {
			t.Errorf("%s: Put is %v, %v", c.name, b, e)
		}
		if a, e := Take(c.want); a != c.a || e != api.OK {
			t.Errorf("%s: Take is %v, %v", c.name, a, e)
		}
	}
}

// mayNot: what may not be, and has no bytes.
func mayNot(t *testing.T, a api.Addr) {
	t.Helper()
	if Good(a) {
		t.Errorf("%v may be", a)
	}
	if b, e := Put(a); b != [2]byte{} || e != api.ErrArg {
		t.Errorf("Put of %v is %v, %v", a, b, e)
	}
}

// P8.1: wrong addresses, those whose sum would be right bytes, too.
func TestWrong(t *testing.T) {
	for _, a := range []api.Addr{
		{Op: 3},
		{Op: -1},
		{Op: -1, File: 64},
		{Op: -1, File: 128, Rec: 7},
		{Op: 4, File: -64},
		{Op: 3, File: 63, Rec: 255},
		{File: 64},
		{File: -1},
		{File: 67, Rec: 7},
		{File: 128},
		{File: 192},
		{Op: api.OpWrite, File: -61, Rec: 7},
		{Op: api.OpWrite, File: -1},
		{Op: api.OpExec, File: -1},
		{Op: api.OpExec, File: 64},
		{Rec: 256},
		{Rec: -1},
		{Op: api.OpWrite, File: 3, Rec: 263},
		{Op: api.OpWrite, File: 3, Rec: -249},
	} {
		mayNot(t, a)
	}
	for _, n := range ends {
		mayNot(t, api.Addr{Op: n})
		mayNot(t, api.Addr{File: n})
		mayNot(t, api.Addr{Rec: n})
		for _, m := range ends {
			mayNot(t, api.Addr{Op: n, File: m, Rec: m})
			mayNot(t, api.Addr{Op: api.OpWrite, File: n, Rec: m})
		}
	}
}

// P8.1: all addresses that may be, and those around them.
func TestAllAddresses(t *testing.T) {
	of := map[[2]byte]api.Addr{}
	for op := -1; op <= 3; op++ {
		for f := -1; f <= 64; f++ {
			for rec := -1; rec <= 256; rec++ {
				a := api.Addr{Op: op, File: f, Rec: rec}
				if op < 0 || op > 2 || f < 0 || f > 63 || rec < 0 || rec > 255 {
					mayNot(t, a)
					continue
				}
				b, e := Put(a)
				if !Good(a) || b != [2]byte{byte(64*op + f), byte(rec)} || e != api.OK {
					t.Fatalf("Put of %v is %v, %v", a, b, e)
				}
				if other, ok := of[b]; ok {
					t.Fatalf("Put of %v and of %v is %v", a, other, b)
				}
				of[b] = a
			}
		}
	}
	if len(of) != 192*256 {
		t.Error(len(of))
	}
}

// P8.1: all bytes.
func TestTake(t *testing.T) {
	for first := range 256 {
		for second := range 256 {
			b := [2]byte{byte(first), byte(second)}
			a, e := Take(b)
			if first >= 192 {
				if a != (api.Addr{}) || e != api.ErrForm {
					t.Fatalf("Take of %v is %v, %v", b, a, e)
				}
				continue
			}
			if e != api.OK || !Good(a) || 64*a.Op+a.File != first || a.Rec != second {
				t.Fatalf("Take of %v is %v, %v", b, a, e)
			}
			if back, e := Put(a); back != b || e != api.OK {
				t.Fatalf("Put of %v is %v, %v, not %v", a, back, e, b)
			}
		}
	}
}
