package uart

import (
	"math"
	"testing"

	"hayward/api"
)

// frame: eleven levels, bit 0 first; '1' is high.
func frame(levels string) api.Frame {
	var f api.Frame
	for i := range f {
		f[i] = levels[i] == '1'
	}
	return f
}

// every: all frames that there are.
func every(yield func(api.Frame) bool) {
	for n := range 1 << api.Bits {
		var f api.Frame
		for i := range f {
			f[i] = n>>i&1 == 1
		}
		if !yield(f) {
			return
		}
	}
}

// ones: how many of the bits 1 to 9 are high.
func ones(f api.Frame) int {
	n := 0
	for i := 1; i <= 9; i++ {
		if f[i] {
			n++
		}
	}
	return n
}

// P3.1: the document's example, and frames written out.
func TestFrames(t *testing.T) {
	for _, c := range []struct {
		b    byte
		odd  bool
		want string
	}{
		{1, false, "01000000011"}, // the example: bits 1, 9 and 10
		{1, true, "01000000001"},
		{0, false, "00000000001"},
		{0, true, "00000000011"},
		{255, false, "01111111101"},
		{255, true, "01111111111"},
		{128, false, "00000000111"},
		{128, true, "00000000101"},
		{2, true, "00100000001"},
		{85, true, "01010101011"},
		{85, false, "01010101001"},
		{7, false, "01110000011"},
		{0xd2, true, "00100101111"},
	} {
		if f := Put(c.b, c.odd); f != frame(c.want) {
			t.Errorf("Put of %d, %v is %v", c.b, c.odd, f)
		}
		if b, odd, e := Take(frame(c.want)); b != c.b || odd != c.odd || e != api.OK {
			t.Errorf("Take of %s is %d, %v, %v", c.want, b, odd, e)
		}
	}
}

// P3.1: each byte's frame, bit by bit, as the words have it.
func TestPut(t *testing.T) {
	for b := range 256 {
		for _, odd := range []bool{false, true} {
			f := Put(byte(b), odd)
			if f[0] || !f[10] {
				t.Errorf("%d: bit 0 is %v, bit 10 is %v", b, f[0], f[10])
			}
			for i := 1; i <= 8; i++ {
				if f[i] != (b>>(i-1)&1 == 1) {
					t.Errorf("%d: bit %d is %v", b, i, f[i])
				}
			}
			if ones(f)%2 == 1 != odd {
				t.Errorf("%d, %v: bit 9 is %v", b, odd, f[9])
			}
		}
	}
}

// P3.1: of all frames, those of any parity are taken; those without low bit 0 and high bit 10 are not.
func TestTake(t *testing.T) {
	for f := range every {
		want, odd, e := 0, ones(f)%2 == 1, api.OK
		for i := 1; i <= 8; i++ {
			if f[i] {
				want += 1 << (i - 1)
			}
		}
		if f[0] || !f[10] {
			want, odd, e = 0, false, api.ErrForm
		}
		if b, is, err := Take(f); int(b) != want || is != odd || err != e {
			t.Errorf("Take of %v is %d, %v, %v", f, b, is, err)
		}
	}
}

// P3.1: wrong frames, one by one.
func TestTakeForm(t *testing.T) {
	for _, levels := range []string{"11000000011", "01000000010", "11000000010", "00000000000", "11111111111", "11111111110"} {
		if b, odd, e := Take(frame(levels)); b != 0 || odd || e != api.ErrForm {
			t.Errorf("Take of %s is %d, %v, %v", levels, b, odd, e)
		}
	}
}

// P3.2: masks written out.
func TestTurn(t *testing.T) {
	for _, c := range []struct {
		mask int
		want string
	}{
		{0, "01110000011"},
		{1, "11110000011"},
		{2, "00110000011"},
		{1 << 8, "01110000111"},
		{1 << 9, "01110000001"},
		{1 << 10, "01110000010"},
		{1<<11 - 1, "10001111100"},
		{-1, "10001111100"},
		{-2, "00001111100"},
		{1 << 11, "01110000011"},
		{1<<11 | 1, "11110000011"},
		{-1 << 11, "01110000011"},
		{1 << 40, "01110000011"},
		{math.MaxInt, "10001111100"},
		{math.MinInt, "01110000011"},
		{math.MinInt + 1, "11110000011"},
	} {
		if f := Turn(frame("01110000011"), c.mask); f != frame(c.want) {
			t.Errorf("mask %d: %v", c.mask, f)
		}
	}
}

// P3.2: each frame by many masks, bit by bit, as the words have it.
func TestTurnByBits(t *testing.T) {
	for f := range every {
		for mask := -50; mask < 1<<11; mask += 37 {
			got := Turn(f, mask)
			for i := range f {
				turned := mask&(1<<i) != 0
				if got[i] != (f[i] != turned) {
					t.Fatalf("%v by %d: bit %d is %v", f, mask, i, got[i])
				}
			}
			if Turn(got, mask) != f {
				t.Fatalf("%v by %d twice is %v", f, mask, Turn(got, mask))
			}
		}
	}
}

// R4: the frame that is handed in stays.
func TestFrameStays(t *testing.T) {
	f := frame("01110000011")
	Turn(f, -1)
	Take(f)
	if f != frame("01110000011") {
		t.Error(f)
	}
}
