package imm_test

import (
	"fmt"
	"math"
	"testing"

	"letterpress/imm"
)

// sci is what Sci8 tells.
type sci struct {
	f, scale, ui int
	is           bool
}

func sci8(v int) sci {
	f, scale, ui, is := imm.Sci8(v)
	return sci{f, scale, ui, is}
}

// fourBytes reckons what P101 says of Back from four bytes, by sums alone.
func fourBytes(f, scale, ui int) int {
	n, weight := 0, 1
	for k := range 4 {
		if k == scale {
			n += ui * weight
		} else {
			n += 255 * f * weight
		}
		weight *= 256
	}
	if n >= weight/2 {
		n -= weight
	}
	return n
}

// firsts is of each number that has one what P101 says of Sci8.
func firsts() map[int]sci {
	m := map[int]sci{}
	for f := range 2 {
		for scale := range 4 {
			for ui := range 256 {
				v := fourBytes(f, scale, ui)
				if _, held := m[v]; !held {
					m[v] = sci{f, scale, ui, true}
				}
			}
		}
	}
	return m
}

// odd are numbers at which something turns: signs, bytes, words, what a float holds, the least and the greatest int.
func odd() []int {
	l := []int{0, math.MinInt, math.MinInt + 1, math.MaxInt, math.MaxInt - 1}
	for k := range 63 {
		n := 1 << k
		l = append(l, n-1, n, n+1, -n-1, -n, -n+1)
	}
	return l
}

// P101
func TestBackOfAll(t *testing.T) {
	for f := range 2 {
		for scale := range 4 {
			for ui := range 256 {
				if got, want := imm.Back(f, scale, ui), fourBytes(f, scale, ui); got != want {
					t.Fatalf("P101: Back %d, %d, %d: %d, not %d", f, scale, ui, got, want)
				}
			}
		}
	}
}

// P101
func TestBackByHand(t *testing.T) {
	for x, want := range map[[3]int]int{
		{0, 0, 0}: 0, {0, 1, 0}: 0, {0, 2, 0}: 0, {0, 3, 0}: 0,
		{0, 0, 255}: 255, {0, 1, 255}: 65280, {0, 2, 255}: 16711680, {0, 3, 255}: -16777216,
		{1, 0, 0}: -256, {1, 1, 0}: -65281, {1, 2, 0}: -16711681, {1, 3, 0}: 16777215,
		{1, 0, 255}: -1, {1, 1, 255}: -1, {1, 2, 255}: -1, {1, 3, 255}: -1,
		{0, 3, 127}: 2130706432, {0, 3, 128}: -2147483648, {1, 3, 127}: 2147483647, {1, 3, 128}: -2130706433,
	} {
		if got := imm.Back(x[0], x[1], x[2]); got != want {
			t.Errorf("P101: Back %v: %d, not %d", x, got, want)
		}
	}
}

// P101
func TestSci8OfAllThatHaveOne(t *testing.T) {
	for v, want := range firsts() {
		if got := sci8(v); got != want {
			t.Errorf("P101: Sci8 %d: %v, not %v", v, got, want)
		}
	}
}

// P101
func TestSci8ByHand(t *testing.T) {
	for v, want := range map[int]sci{
		0: {0, 0, 0, true}, 1: {0, 0, 1, true}, 255: {0, 0, 255, true},
		256: {0, 1, 1, true}, 65280: {0, 1, 255, true},
		65536: {0, 2, 1, true}, 16711680: {0, 2, 255, true},
		16777216: {0, 3, 1, true}, -16777216: {0, 3, 255, true}, math.MinInt32: {0, 3, 128, true},
		-1: {1, 0, 255, true}, -256: {1, 0, 0, true}, -257: {1, 1, 254, true}, -65281: {1, 1, 0, true},
		-65537: {1, 2, 254, true}, 16777215: {1, 3, 0, true}, math.MaxInt32: {1, 3, 127, true},
	} {
		if got := sci8(v); got != want {
			t.Errorf("P101: Sci8 %d: %v, not %v", v, got, want)
		}
	}
}

// P101, P4: zero values beside a false.
func TestSci8OfThoseThatHaveNone(t *testing.T) {
	for _, v := range []int{
		257, 511, 65535, 65537, 16777217, -258, -514, -65282, -65536, math.MinInt32 + 1, math.MaxInt32 - 1<<24 - 1,
		math.MaxUint32, math.MaxUint32 - 255, 1 << 31, 1 << 32, 1<<32 + 1, -1 << 32, -1<<32 - 1, math.MinInt32 - 1,
		1 << 40, -1 << 40, math.MaxInt, math.MinInt,
	} {
		if got := sci8(v); got != (sci{}) {
			t.Errorf("P101: Sci8 %d: %v", v, got)
		}
	}
}

// P101: the first one, or none, of a run of numbers and wherever something turns.
func TestSci8OfOthers(t *testing.T) {
	want := firsts()
	look := func(v int) {
		if got := sci8(v); got != want[v] {
			t.Fatalf("P101: Sci8 %d: %v, not %v", v, got, want[v])
		}
	}
	for v := -70000; v <= 70000; v++ {
		look(v)
	}
	for _, v := range odd() {
		look(v)
	}
}

// P102
func TestFits(t *testing.T) {
	for bits := 1; bits <= 40; bits++ {
		end := 1 << (bits - 1)
		for _, v := range append(odd(), -end-1, -end, end-1, end) {
			if got, want := imm.Fits(v, bits), -end <= v && v < end; got != want {
				t.Errorf("P102: Fits %d, %d: %v", v, bits, got)
			}
		}
	}
}

// P102
func TestSign(t *testing.T) {
	for bits := 1; bits <= 40; bits++ {
		end := 1 << (bits - 1)
		for _, v := range append(odd(), 3*end, 3*end-1, -3*end, -3*end-1) {
			want := v & (2*end - 1)
			if want >= end {
				want -= 2 * end
			}
			if got := imm.Sign(v, bits); got != want {
				t.Errorf("P102: Sign %d, %d: %d, not %d", v, bits, got, want)
			}
		}
	}
}

// P102
func TestSignByHand(t *testing.T) {
	for x, want := range map[[2]int]int{
		{0, 1}: 0, {1, 1}: -1, {2, 1}: 0, {-1, 1}: -1,
		{127, 8}: 127, {128, 8}: -128, {255, 8}: -1, {256, 8}: 0, {-129, 8}: 127,
		{1<<39 - 1, 40}: 1<<39 - 1, {1 << 39, 40}: -1 << 39, {1<<40 - 1, 40}: -1,
		{math.MaxInt, 40}: -1, {math.MinInt, 40}: 0, {math.MinInt + 5, 40}: 5,
	} {
		if got := imm.Sign(x[0], x[1]); got != want {
			t.Errorf("P102: Sign %v: %d, not %d", x, got, want)
		}
	}
}

// P102
func TestSplitAndJoinedByHand(t *testing.T) {
	for v, want := range map[int][3]int{
		0: {0, 0, 0}, 1: {0, 0, 1}, 2047: {0, 0, 2047}, 2048: {0, 1, 0}, 65535: {0, 31, 2047}, 65536: {1, 0, 0},
		70000: {1, 2, 368}, 1<<19 - 1: {7, 31, 2047}, -1 << 19: {8, 0, 0}, -1: {15, 31, 2047}, -2048: {15, 31, 0}, -2049: {15, 30, 2047},
	} {
		if high, mid, low := imm.Split(v); [3]int{high, mid, low} != want {
			t.Errorf("P102: Split %d: %d, %d, %d, not %v", v, high, mid, low, want)
		}
		if got := imm.Joined(want[0], want[1], want[2]); got != v {
			t.Errorf("P102: Joined %v: %d, not %d", want, got, v)
		}
	}
}

// P103, P102: of all numbers of 20 bits, from the least to the greatest, each is told by parts that no other has.
func TestSplitThenJoined(t *testing.T) {
	for v := -1 << 19; v < 1<<19; v++ {
		high, mid, low := imm.Split(v)
		if high < 0 || high > 15 || mid < 0 || mid > 31 || low < 0 || low > 2047 {
			t.Fatalf("P102: Split %d: %d, %d, %d", v, high, mid, low)
		}
		if got := imm.Joined(high, mid, low); got != v {
			t.Fatalf("P103: %d, split and joined: %d", v, got)
		}
	}
}

// P103, P102
func TestJoinedThenSplit(t *testing.T) {
	for high := range 16 {
		for mid := range 32 {
			for low := range 2048 {
				v := imm.Joined(high, mid, low)
				if x, y, z := imm.Split(v); x != high || y != mid || z != low {
					t.Fatalf("P103: %d, %d, %d, joined (%d) and split: %d, %d, %d", high, mid, low, v, x, y, z)
				}
			}
		}
	}
}

// P103
func TestSci8ThenBack(t *testing.T) {
	told := 0
	look := func(v int) {
		x := sci8(v)
		if !x.is {
			return
		}
		told++
		if got := imm.Back(x.f, x.scale, x.ui); got != v {
			t.Errorf("P103: %d is told as %v, which gives %d", v, x, got)
		}
	}
	all := firsts()
	for v := range all {
		look(v)
	}
	if told != len(all) {
		t.Errorf("P101: %d of %d numbers were told", told, len(all))
	}
	for _, v := range odd() {
		look(v)
	}
}

// P1: each call ends, whatever it is given; that a panic fails the test is enough.
func TestWhateverIsGiven(t *testing.T) {
	l := []int{math.MinInt, -1 << 40, -1 << 31, -64, -1, 0, 1, 2, 4, 16, 32, 41, 63, 64, 65, 256, 2048, 1 << 31, 1 << 40, math.MaxInt}
	for _, a := range l {
		imm.Sci8(a)
		imm.Split(a)
		for _, b := range l {
			imm.Fits(a, b)
			imm.Sign(a, b)
			for _, c := range l {
				imm.Back(a, b, c)
				imm.Joined(a, b, c)
			}
		}
	}
}

// P9: what is out of bounds is refused, not clamped and not cut off.
func TestOutOfBounds(t *testing.T) {
	for _, x := range [][3]int{{-1, 0, 5}, {2, 0, 5}, {0, -1, 5}, {0, 4, 5}, {0, 0, -1}, {0, 0, 256}, {1, 4, 0}, {math.MaxInt, math.MinInt, 5}} {
		if got := imm.Back(x[0], x[1], x[2]); got != 0 {
			t.Errorf("P9: Back %v: %d", x, got)
		}
	}
	for _, x := range [][3]int{{-1, 1, 1}, {16, 1, 1}, {1, -1, 1}, {1, 32, 1}, {1, 1, -1}, {1, 1, 2048}, {math.MinInt, math.MaxInt, 1}} {
		if got := imm.Joined(x[0], x[1], x[2]); got != 0 {
			t.Errorf("P9: Joined %v: %d", x, got)
		}
	}
	for _, v := range []int{1 << 19, 1<<19 + 5, -1<<19 - 1, 1<<20 + 5, math.MaxInt, math.MinInt + 5} {
		if high, mid, low := imm.Split(v); high != 0 || mid != 0 || low != 0 {
			t.Errorf("P9: Split %d: %d, %d, %d", v, high, mid, low)
		}
	}
	for _, bits := range []int{0, -1, 41, 63, 64, 65, math.MaxInt, math.MinInt} {
		if imm.Fits(0, bits) || imm.Sign(5, bits) != 0 {
			t.Errorf("P9: %d bits", bits)
		}
	}
}

func ExampleSci8() {
	f, scale, ui, is := imm.Sci8(256)
	fmt.Println(f, scale, ui, is)
	fmt.Println(imm.Back(f, scale, ui))
	// Output:
	// 0 1 1 true
	// 256
}
