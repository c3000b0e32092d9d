package fire

import (
	"math"
	"math/bits"
	"testing"

	"hayward/api"
	"hayward/uart"
)

// all: the codes, as the document lists them.
var all = [8]byte{85, 51, 15, 102, 90, 60, 105, 150}

// roundOf: the round that a byte is the code of; -1, if of none.
func roundOf(b byte) int {
	for n, code := range all {
		if code == b {
			return n
		}
	}
	return -1
}

// levels: a frame whose bit i is high where n's bit i is 1.
func levels(n int) api.Frame {
	var f api.Frame
	for i := range f {
		f[i] = n>>i&1 == 1
	}
	return f
}

// P6.1.
func TestCode(t *testing.T) {
	for n, want := range all {
		if b, e := Code(n); b != want || e != api.OK {
			t.Errorf("Code of %d is %d, %v", n, b, e)
		}
	}
	for _, n := range []int{math.MinInt, -256, -8, -2, -1, 8, 9, 16, 85, 256, 1 << 32, 1<<32 + 1, math.MaxInt} {
		if b, e := Code(n); b != 0 || e != api.ErrArg {
			t.Errorf("Code of %d is %d, %v", n, b, e)
		}
	}
}

// P6.1: the document's example, and wrong bytes.
func TestRound(t *testing.T) {
	for _, c := range []struct {
		b    byte
		odd  bool
		want int
		e    api.Errno
	}{
		{85, true, 0, api.OK}, // the example
		{51, true, 1, api.OK},
		{150, true, 7, api.OK},
		{85, false, 0, api.ErrParity},
		{150, false, 0, api.ErrParity},
		{0, true, 0, api.ErrCode},
		{0, false, 0, api.ErrParity}, // parity ahead of code
		{255, true, 0, api.ErrCode},
		{255, false, 0, api.ErrParity},
		{84, true, 0, api.ErrCode},
		{170, true, 0, api.ErrCode}, // 85 with all bits turned
		{7, true, 0, api.ErrCode},   // a round's number is no code
	} {
		if n, e := Round(c.b, c.odd); n != c.want || e != c.e {
			t.Errorf("Round of %d, %v is %d, %v", c.b, c.odd, n, e)
		}
	}
}

// P6.1: each byte, in each parity.
func TestRoundOfAll(t *testing.T) {
	for i := range 256 {
		b := byte(i)
		want, wantE := roundOf(b), api.OK
		if want < 0 {
			want, wantE = 0, api.ErrCode
		}
		if n, e := Round(b, true); n != want || e != wantE {
			t.Errorf("Round of %d in odd parity is %d, %v", b, n, e)
		}
		if n, e := Round(b, false); n != 0 || e != api.ErrParity {
			t.Errorf("Round of %d in even parity is %d, %v", b, n, e)
		}
	}
}

// P6.2: frames written out.
func TestApart(t *testing.T) {
	for _, c := range []struct {
		name string
		f, g api.Frame
		want int
	}{
		{"both low", api.Frame{}, api.Frame{}, 0},
		{"all bits", levels(0), levels(1<<11 - 1), 11},
		{"all high", levels(1<<11 - 1), levels(1<<11 - 1), 0},
		{"bit 0", levels(0), levels(1), 1},
		{"bit 10", levels(1 << 10), levels(0), 1},
		{"the parity alone", uart.Put(85, true), uart.Put(85, false), 1},
		{"a bit of the byte, and the parity", uart.Put(84, true), uart.Put(85, true), 2},
		{"two bits of the byte", uart.Put(0, true), uart.Put(3, true), 2},
		{"as many high, at other bits", levels(0x2aa), levels(0x155), 10},
		{"two codes", uart.Put(85, true), uart.Put(51, true), 4},
		{"two codes, one turned whole", uart.Put(105, true), uart.Put(150, true), 8},
	} {
		if got := Apart(c.f, c.g); got != c.want {
			t.Errorf("%s: Apart is %d, not %d", c.name, got, c.want)
		}
		if got := Apart(c.g, c.f); got != c.want {
			t.Errorf("%s, turned round: Apart is %d, not %d", c.name, got, c.want)
		}
	}
}

// P6.2: many frames against all others.
func TestApartOfAll(t *testing.T) {
	for a := 0; a < 1<<11; a += 7 {
		f := levels(a)
		for b := range 1 << 11 {
			if got, want := Apart(f, levels(b)), bits.OnesCount(uint(a^b)); got != want {
				t.Fatalf("Apart of %b and %b is %d, not %d", a, b, got, want)
			}
		}
	}
}

// P6.2: any two codes, as they are told.
func TestCodesAreApart(t *testing.T) {
	for n := range all {
		for m := range all {
			b, _ := Code(n)
			c, _ := Code(m)
			got := Apart(uart.Put(b, true), uart.Put(c, true))
			if n == m && got != 0 || n != m && got < 4 {
				t.Errorf("the codes of %d and %d are %d apart", n, m, got)
			}
		}
	}
}

// P6.2: what it is for: whatever three bits or less are turned of a code's frame, it opens no other round.
func TestTurnedCodeOpensNoOther(t *testing.T) {
	for n := range all {
		code, _ := Code(n)
		for mask := range 1 << api.Bits {
			if bits.OnesCount(uint(mask)) > 3 {
				continue
			}
			b, odd, e := uart.Take(uart.Turn(uart.Put(code, true), mask))
			if e != api.OK {
				continue
			}
			if m, e := Round(b, odd); e == api.OK && m != n {
				t.Errorf("the code of %d, turned by %b, opens %d", n, mask, m)
			}
		}
	}
}

// R4: the frames that are handed in stay.
func TestFramesStay(t *testing.T) {
	f, g := levels(0x2aa), levels(0x0f3)
	Apart(f, g)
	if f != levels(0x2aa) || g != levels(0x0f3) {
		t.Error(f, g)
	}
}
