package isa_test

import (
	"bytes"
	"fmt"
	"math"
	"math/rand"
	"slices"
	"strconv"
	"strings"
	"testing"

	"letterpress/api"
	"letterpress/isa"
)

// no is none of the instructions' numbers, some of which are those of an instruction in their lowest bits.
var no = []int{-1, -2, -66, 66, 67, 256, 1 << 16, 1 << 32, 1<<32 + 3, 1<<63 - 1, math.MinInt, math.MinInt + 3}

// extreme are numbers that no kind has, though their lowest bits may be those of one that it has.
var extreme = []int{math.MinInt, math.MinInt + 1, math.MinInt + 2, math.MaxInt, math.MaxInt - 1, 1 << 62, 1<<62 + 4, 1 << 33, 1<<33 + 24, -1 << 33, 1<<40 + 2, -1<<40 + 2}

func (r row) word() int {
	n, _ := strconv.ParseInt(r.bits, 16, 64)
	return int(n)
}

func (r row) size() int { return len(r.bits) / 2 }

func (r row) with(op, i, v int) api.Inst {
	f := slices.Clone(r.f)
	f[i] = v
	return api.Inst{Op: op, F: f}
}

// sameInst: no operands and an empty list of them are the same (P2).
func sameInst(a, b api.Inst) bool { return a.Op == b.Op && slices.Equal(a.F, b.F) }

// number reads bytes, the highest first (W1).
func number(b []byte) int {
	n := 0
	for _, c := range b {
		n = n*256 + int(c)
	}
	return n
}

// toBytes is the way back.
func toBytes(n, size int) []byte {
	b := make([]byte, size)
	for i := size - 1; i >= 0; i-- {
		b[i] = byte(n % 256)
		n /= 256
	}
	return b
}

// laid is what the chapter's table says of a number of a kind, by products alone: its bits where they stand; false: it may not be.
func laid(kind string, v int) (int, bool) {
	within := func(least, most, by int) bool { return least <= v && v <= most && v%by == 0 }
	switch kind {
	case "X", "Y":
		n := slices.Index([]int{0, 1, 2, 3, 4, 5, 6, 7, 24, 25, 26, 27, 28, 29, 30, 31}, v)
		if kind == "Y" {
			return n * 16, n >= 0
		}
		return n, n >= 0
	case "U5":
		return v * 16, within(0, 31, 1)
	case "U7":
		return v * 16, within(0, 127, 1)
	case "O5":
		return (v - 1) * 16, within(1, 32, 1)
	case "M1":
		return v * 256, within(0, 15, 1)
	case "M2":
		return v / 2 * 256, within(0, 30, 2)
	case "M4":
		return v / 4 * 256, within(0, 60, 4)
	case "O1":
		return v * 1024, within(0, 1, 1)
	case "I2":
		return v * 256, within(0, 3, 1)
	case "T8":
		return (v/2 + 256) % 256, within(-256, 254, 2)
	}
	return laidLong(kind, v)
}

func laidLong(kind string, v int) (int, bool) {
	within := func(least, most, by int) bool { return least <= v && v <= most && v%by == 0 }
	switch kind {
	case "D":
		return v * 2097152, within(0, 31, 1)
	case "A":
		return v * 65536, within(0, 31, 1)
	case "B":
		return v * 2048, within(0, 31, 1)
	case "S16":
		return (v + 65536) % 65536, within(-32768, 32767, 1)
	case "L20":
		u := (v + 1048576) % 1048576
		return u/65536*2048 + u/2048%32*65536 + u%2048, within(-524288, 524287, 1)
	case "C8":
		f, scale, ui, is := writing(v)
		return f*1024 + scale*256 + ui, is
	case "O2":
		return v * 1048576, within(0, 3, 1)
	case "I4":
		return v * 65536, within(0, 15, 1)
	case "T15":
		return (v + 65536) % 65536, within(-32768, 32766, 2)
	case "T24":
		return (v + 33554432) % 33554432, within(-16777216, 16777214, 2)
	}
	panic("no kind: " + kind)
}

// fourBytes is the number of 32 bits whose byte number scale is ui, all others 0 or 255.
func fourBytes(f, scale, ui int) int {
	b := [4]int{f * 255, f * 255, f * 255, f * 255}
	b[scale] = ui
	return int(int32(b[3]<<24 | b[2]<<16 | b[1]<<8 | b[0]))
}

// writing is the first one that gives v.
func writing(v int) (f, scale, ui int, is bool) {
	for n := range 8 {
		ui := v >> (8 * (n % 4)) & 255
		if fourBytes(n/4, n%4, ui) == v {
			return n / 4, n % 4, ui, true
		}
	}
	return 0, 0, 0, false
}

// all is every number of a kind; of T24, which has too many, those of S16 that it has.
func all(kind string) []int {
	var l []int
	if kind == "C8" {
		for n := range 2048 {
			l = append(l, fourBytes(n/1024, n/256%4, n%256))
		}
		return l
	}
	edge := 32768
	if kind == "L20" {
		edge = 524288
	}
	for v := -edge; v < edge; v++ {
		if _, is := laid(kind, v); is {
			l = append(l, v)
		}
	}
	return l
}

// wanted reckons what Encode must answer.
func wanted(x api.Inst) ([]byte, bool) {
	r := rows[x.Op]
	n := r.word()
	for i, k := range strings.Fields(r.kinds) {
		part, is := laid(k, x.F[i])
		if !is {
			return nil, false
		}
		n += part
	}
	return toBytes(n, r.size()), true
}

// wantedOp tells the one instruction of that size that n is an encoding of, -1 if there is none.
func wantedOp(n, size int) int {
	for op, r := range rows {
		taken := 0
		for _, k := range strings.Fields(r.kinds) {
			taken += cover[k]
		}
		if r.size() != size || n&^taken != r.word() {
			continue
		}
		if strings.Contains(r.kinds, "C8") {
			c := n % 2048
			f, scale, ui, _ := writing(fourBytes(c/1024, c/256%4, c%256))
			if f*1024+scale*256+ui != c {
				return -1
			}
		}
		return op
	}
	return -1
}

// mustEncode holds Right and Encode of x against what is wanted, and Decode against x.
func mustEncode(t *testing.T, x api.Inst) {
	t.Helper()
	want, may := wanted(x)
	got, is := isa.Encode(x)
	if is != may || !bytes.Equal(got, want) || isa.Right(x) != may {
		t.Fatalf("P201: %s %v: %x %v, right %v, not %x %v", isa.Name(x.Op), x.F, got, is, isa.Right(x), want, may)
	}
	if may {
		mustTell(t, got, x, len(got))
	}
}

func mustTell(t *testing.T, b []byte, want api.Inst, size int) {
	t.Helper()
	if x, n, is := isa.Decode(b); !is || n != size || !sameInst(x, want) {
		t.Fatalf("P202: %x: %v, %d, %v, not %v, %d", b, x, n, is, want, size)
	}
}

func mustNotTell(t *testing.T, b []byte) {
	t.Helper()
	if x, n, is := isa.Decode(b); is || n != 0 || x.Op != 0 || len(x.F) > 0 {
		t.Fatalf("P201: %x: %v, %d, %v, though it is none", b, x, n, is)
	}
}

// mustRefuse: nothing stands beside the false (P4).
func mustRefuse(t *testing.T, x api.Inst) {
	t.Helper()
	if b, is := isa.Encode(x); is || len(b) > 0 || isa.Right(x) {
		t.Fatalf("P201: %v: %x, %v, right %v, though it may not be", x, b, is, isa.Right(x))
	}
}

// P201
func TestNamesKindsSizes(t *testing.T) {
	if len(rows) != 66 {
		t.Fatalf("%d rows", len(rows))
	}
	for op, r := range rows {
		if isa.Name(op) != r.name || isa.Kinds(op) != r.kinds || isa.Size(op) != r.size() {
			t.Errorf("P201: %d: %q, %q, %d", op, isa.Name(op), isa.Kinds(op), isa.Size(op))
		}
		if n, is := isa.Find(r.name); !is || n != op {
			t.Errorf("P201: Find %s: %d, %v", r.name, n, is)
		}
	}
}

// P201
func TestNumbersOfNone(t *testing.T) {
	for _, op := range no {
		if isa.Name(op) != "" || isa.Kinds(op) != "" || isa.Size(op) != 0 {
			t.Errorf("P201: %d: %q, %q, %d", op, isa.Name(op), isa.Kinds(op), isa.Size(op))
		}
		for _, f := range [][]int{nil, {}, {0}, {0, 0}, {0, 0, 0}, {0, 0, 0, 0}} {
			mustRefuse(t, api.Inst{Op: op, F: f})
		}
	}
}

// P201
func TestFindNone(t *testing.T) {
	names := []string{"", " ", "se", "se_", "e_", "b", "bl", "bc", "se_bx", "SE_BLR", "Add", "X", "se_blr\x00", "\xff", "se-blr", strings.Repeat("se_blr", 1000)}
	for _, r := range rows {
		names = append(names, r.name+" ", " "+r.name, r.name+"_", strings.ToUpper(r.name), r.name[:len(r.name)-1]+"?")
	}
	for _, s := range names {
		if n, is := isa.Find(s); is || n != 0 {
			t.Errorf("P201: Find %q: %d, %v", s, n, is)
		}
	}
}

// P201, P202: one of each instruction
func TestOneOfEach(t *testing.T) {
	for op, r := range rows {
		x := api.Inst{Op: op, F: r.f}
		b, is := isa.Encode(x)
		if got := fmt.Sprintf("%x", b); !is || got != r.bytes || !isa.Right(x) {
			t.Errorf("P201: %s %v: %s, %v, not %s", r.name, r.f, got, is, r.bytes)
		}
		mustTell(t, b, x, r.size())
	}
}

// P201: each kind's edges, wherever it stands
func TestEdges(t *testing.T) {
	seen := map[string]bool{}
	for _, e := range edges {
		seen[e.kind] = true
		for op, r := range rows {
			for i, k := range strings.Fields(r.kinds) {
				if k != e.kind {
					continue
				}
				for _, v := range e.right {
					mustEncode(t, r.with(op, i, v))
					if !isa.Right(r.with(op, i, v)) {
						t.Errorf("P201: %s: %s may be %d", r.name, k, v)
					}
				}
				for _, v := range append(e.wrong, extreme...) {
					mustRefuse(t, r.with(op, i, v))
				}
			}
		}
	}
	for _, r := range rows {
		for _, k := range strings.Fields(r.kinds) {
			if !seen[k] {
				t.Errorf("no edges of %s", k)
			}
		}
	}
}

// P201, P202: all numbers of each kind, those beside it, and those far off
func TestAllNumbers(t *testing.T) {
	done := map[string]bool{}
	for op, r := range rows {
		for i, k := range strings.Fields(r.kinds) {
			if done[k] {
				continue
			}
			done[k] = true
			for v := -1100; v <= 1100; v++ {
				mustEncode(t, r.with(op, i, v))
			}
			for bit := range 63 {
				for _, v := range []int{1<<bit - 2, 1<<bit - 1, 1 << bit, 1<<bit + 1, 1<<bit + 2} {
					mustEncode(t, r.with(op, i, v))
					mustEncode(t, r.with(op, i, -v))
				}
			}
			for _, v := range all(k) {
				mustEncode(t, r.with(op, i, v))
				if k == "C8" {
					mustEncode(t, r.with(op, i, v-1))
					mustEncode(t, r.with(op, i, v+1))
				}
			}
		}
	}
}

// P201: a branch's distances of 25 bits, all over
func TestFarBranches(t *testing.T) {
	for _, op := range []int{56, 57} {
		for v := -17000000; v <= 17000000; v += 1009 {
			mustEncode(t, api.Inst{Op: op, F: []int{v}})
		}
	}
}

// P201, P202: several operands at once, each any that its kind has
func TestTogether(t *testing.T) {
	d := rand.New(rand.NewSource(2))
	right := map[string][]int{}
	for _, e := range edges {
		right[e.kind] = append(all(e.kind), e.right...)
	}
	for op, r := range rows {
		for range 300 {
			x := api.Inst{Op: op}
			for _, k := range strings.Fields(r.kinds) {
				x.F = append(x.F, right[k][d.Intn(len(right[k]))])
			}
			mustEncode(t, x)
		}
	}
}

// P201
func TestTooFewTooMany(t *testing.T) {
	for op, r := range rows {
		if len(r.f) > 0 {
			mustRefuse(t, api.Inst{Op: op, F: r.f[:len(r.f)-1]})
			mustRefuse(t, api.Inst{Op: op})
		}
		for _, more := range []int{0, 1, 24, -2} {
			mustRefuse(t, api.Inst{Op: op, F: append(slices.Clone(r.f), more)})
		}
		mustRefuse(t, api.Inst{Op: op, F: make([]int, 10000)})
	}
}

// P201, P202: all bytes of two, in full
func TestAllOfTwoBytes(t *testing.T) {
	found := map[int]int{}
	for n := range 65536 {
		b := toBytes(n, 2)
		op := wantedOp(n, 2)
		// what begins with 1, 3, 5, 7 is cut off
		if op < 0 || slices.Contains([]int{1, 3, 5, 7}, n/4096) {
			mustNotTell(t, b)
			continue
		}
		found[op]++
		x, size, is := isa.Decode(b)
		again, right := isa.Encode(x)
		if !is || size != 2 || x.Op != op || !right || !bytes.Equal(again, b) {
			t.Fatalf("P201: %x: %v, %d, %v, again %x, not %s", b, x, size, is, again, rows[op].name)
		}
	}
	for op, r := range rows {
		many := 1
		for _, k := range strings.Fields(r.kinds) {
			if r.size() == 2 {
				many *= len(all(k))
			}
		}
		if r.size() == 2 && found[op] != many {
			t.Errorf("P201: %s: %d encodings, not %d", r.name, found[op], many)
		}
	}
}

// P201: of four bytes, every bit of one of each turned, and any
func TestFourBytes(t *testing.T) {
	d := rand.New(rand.NewSource(3))
	var words []int
	for _, r := range rows {
		n, _ := strconv.ParseInt(r.bytes, 16, 64)
		for bit := range 32 {
			if r.size() == 4 {
				words = append(words, int(n)^1<<bit, r.word()^1<<bit, r.word()|d.Intn(1<<26))
			}
		}
	}
	for range 20000 {
		words = append(words, (2*d.Intn(4)+1)<<28|d.Intn(1<<28))
	}
	for _, n := range words {
		b := toBytes(n, 4)
		if !slices.Contains([]int{1, 3, 5, 7}, n>>28) {
			continue
		}
		op := wantedOp(n, 4)
		if op < 0 {
			mustNotTell(t, b)
			continue
		}
		x, size, is := isa.Decode(b)
		again, right := isa.Encode(x)
		if !is || size != 4 || x.Op != op || !right || !bytes.Equal(again, b) {
			t.Fatalf("P201: %x: %v, %d, %v, again %x, not %s", b, x, size, is, again, rows[op].name)
		}
	}
}

// P201: of the writings of a number in C8 the first alone is one
func TestOneWriting(t *testing.T) {
	for op, r := range rows {
		if !strings.Contains(r.kinds, "C8") {
			continue
		}
		for n := range 2048 {
			b := toBytes(r.word()+n, 4)
			v := fourBytes(n/1024, n/256%4, n%256)
			if first, _ := laid("C8", v); first == n {
				mustTell(t, b, api.Inst{Op: op, F: []int{0, 0, v}}, 4)
			} else {
				mustNotTell(t, b)
			}
		}
	}
	for _, s := range []string{"\x18\x00\x81\x00", "\x18\x00\x82\x00", "\x18\x00\x83\x00", "\x18\x00\x85\xff", "\x18\x00\x86\xff", "\x18\x00\x87\xff"} {
		mustNotTell(t, []byte(s))
	}
}

// P201
func TestCutOff(t *testing.T) {
	mustNotTell(t, nil)
	mustNotTell(t, []byte{})
	for first := range 256 {
		mustNotTell(t, []byte{byte(first)})
	}
	for _, r := range rows {
		n, _ := strconv.ParseInt(r.bytes, 16, 64)
		b := toBytes(int(n), r.size())
		for cut := range r.size() {
			mustNotTell(t, b[:cut:cut])
			mustNotTell(t, b[:cut]) // its spare room is not read either
		}
	}
}

// P202: whatever is behind
func TestBehind(t *testing.T) {
	behind := [][]byte{{0}, {255}, {0x12, 0x34}, {0, 4}, {0x78, 0, 0, 1}, {0x70}, bytes.Repeat([]byte{0xee}, 1000)}
	for op, r := range rows {
		x := api.Inst{Op: op, F: r.f}
		b, _ := isa.Encode(x)
		for _, more := range behind {
			mustTell(t, append(slices.Clone(b), more...), x, r.size())
		}
	}
	// nor is what is behind looked for where the beginning is none
	for _, b := range [][]byte{{0, 3, 0, 4}, {0, 0x10, 0, 4}, {0xf0, 0, 0, 4}, {0x70, 0, 0x80, 0, 0, 4}, {0x7f, 0, 0, 0, 0, 4}} {
		mustNotTell(t, b)
	}
}

// P202: one behind the other
func TestRowOfInstructions(t *testing.T) {
	var b []byte
	for op, r := range rows {
		one, _ := isa.Encode(api.Inst{Op: op, F: r.f})
		b = append(b, one...)
	}
	for op, r := range rows {
		mustTell(t, b, api.Inst{Op: op, F: r.f}, r.size())
		b = b[r.size():]
	}
}

// P1: whatever is given, all calls answer
func TestAnything(t *testing.T) {
	d := rand.New(rand.NewSource(4))
	any := append(append([]int{0, 1, 2, 24, -1}, no...), extreme...)
	pick := func() int { return any[d.Intn(len(any))] }
	for range 20000 {
		x := api.Inst{Op: d.Intn(70) - 2}
		if d.Intn(10) == 0 {
			x.Op = pick()
		}
		for range d.Intn(5) {
			x.F = append(x.F, pick())
		}
		b, is := isa.Encode(x)
		if is != isa.Right(x) || is != (len(b) > 0) {
			t.Fatalf("P201: %v: %x, %v, right %v", x, b, is, isa.Right(x))
		}
		c := make([]byte, d.Intn(7))
		d.Read(c)
		if y, n, is := isa.Decode(c); is {
			if again, _ := isa.Encode(y); !bytes.Equal(again, c[:n]) {
				t.Fatalf("P201: %x: %v, %d", c, y, n)
			}
		}
	}
}

// P2: nothing that is handed in is changed, and each answer is new memory
func TestNewMemory(t *testing.T) {
	for op, r := range rows {
		f := append(make([]int, 0, 8), r.f...)
		copy(f[len(f):8], []int{9, 9, 9})
		room := slices.Clone(f[:8])
		x := api.Inst{Op: op, F: f}
		first, _ := isa.Encode(x)
		second, _ := isa.Encode(x)
		if !slices.Equal(f[:8], room) {
			t.Fatalf("P2: %s: operands changed: %v", r.name, f[:8])
		}
		clear(first[:cap(first)])
		if got := fmt.Sprintf("%x", second); got != r.bytes {
			t.Fatalf("P2: %s: two answers share memory: %s", r.name, got)
		}
		kept := append(slices.Clone(second), 1, 2, 3)
		in := slices.Clone(kept)
		a, _, _ := isa.Decode(in)
		b, _, _ := isa.Decode(in)
		if !bytes.Equal(in, kept) {
			t.Fatalf("P2: %s: bytes changed: %x", r.name, in)
		}
		clear(in)
		clear(a.F[:cap(a.F)])
		if !slices.Equal(b.F, r.f) {
			t.Fatalf("P2: %s: two answers share memory: %v", r.name, b.F)
		}
	}
}

// The chapter's example 1
func ExampleEncode() {
	op, _ := isa.Find("se_blr")
	b, is := isa.Encode(api.Inst{Op: op})
	fmt.Println(b, is)
	// Output: [0 4] true
}

func ExampleDecode() {
	x, size, is := isa.Decode([]byte{0x70, 0xa2, 0x09, 0x70, 0, 4})
	fmt.Println(isa.Name(x.Op), isa.Kinds(x.Op), x.F, size, is)
	// Output: e_li D L20 [5 70000] 4 true
}
