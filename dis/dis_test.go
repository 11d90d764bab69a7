package dis_test

import (
	"encoding/hex"
	"fmt"
	"math/rand"
	"slices"
	"strings"
	"testing"

	"letterpress/api"
	"letterpress/dis"
)

func bytesOf(t *testing.T, s string) []byte {
	t.Helper()
	b, err := hex.DecodeString(strings.ReplaceAll(s, " ", ""))
	if err != nil {
		t.Fatal(err)
	}
	return b
}

// brief is of a long text its ends.
func brief(s string) string {
	if len(s) <= 300 {
		return s
	}
	return fmt.Sprintf("%s .. (%d bytes) .. %s", s[:150], len(s), s[len(s)-100:])
}

func shown(l []string) string { return strings.Join(l, "|") }

// same holds both calls against the second writing.
func same(t *testing.T, b []byte) {
	t.Helper()
	want := listed(b)
	if got := dis.List(b); !slices.Equal(got, want) {
		t.Fatalf("P601: List of %x: %s, not %s", brief(string(b)), brief(shown(got)), brief(shown(want)))
	}
	if got := dis.Frags(b); !slices.Equal(got, parted(want)) {
		t.Fatalf("P601: Frags of %x: %s, not %s", brief(string(b)), brief(fmt.Sprint(got)), brief(fmt.Sprint(parted(want))))
	}
}

func ExampleList() {
	for _, s := range dis.List([]byte{0x70, 0xa2, 0x09, 0x70, 0x01, 0x83, 0xe8, 0xfd, 0xff, 0xff, 7}) {
		fmt.Println(s)
	}
	// Output:
	// e_li r5, 70000
	// se_mr r3, r24
	// se_b . - 6
	// .half 65535
	// .byte 7
}

func ExampleFrags() {
	fmt.Printf("%q\n", dis.Frags([]byte{0, 4, 0xe8, 0}))
	// Output: [{"p00" "se_blr\nse_b . + 0\n"}]
}

// P601: lines as they are written out.
func TestLines(t *testing.T) {
	for s, want := range map[string]string{
		"":   "",
		"00": ".byte 0",
		"7f": ".byte 127",
		"80": ".byte 128",
		"ff": ".byte 255",
		"70": ".byte 112",

		"0003": ".half 3",
		"0005": ".half 5",
		"0007": ".half 7",
		"0010": ".half 16",
		"0200": ".half 512",
		"7fff": ".half 32767",
		"f000": ".half 61440",
		"ffff": ".half 65535",

		// the first two bytes, and three, of an instruction of four
		"7000":        ".half 28672",
		"700000":      ".half 28672|.byte 0",
		"70000000":    "e_li r0, 0",
		"0004 7c22":   "se_blr|.half 31778",
		"0004 7c2218": "se_blr|.half 31778|.byte 24",
		"1c":          ".byte 28",
		"30 00 80":    ".half 12288|.byte 128",

		// an odd number of bytes
		"0004 00":    "se_blr|.byte 0",
		"ffff 04":    ".half 65535|.byte 4",
		"70000000ff": "e_li r0, 0|.byte 255",

		// four bytes that are none: two of them, and what is behind anew
		"7c000000":           ".half 31744|se_illegal",
		"10000004":           ".half 4096|se_blr",
		"7c00 7c000214":      ".half 31744|add r0, r0, r0",
		"7c00 7c00 7c000214": ".half 31744|.half 31744|add r0, r0, r0",
		"7c00 7c00 7c00":     ".half 31744|.half 31744|.half 31744",
		"7c00 7000 0004":     ".half 31744|e_li r0, 4",
		"7c00 7000 00":       ".half 31744|.half 28672|.byte 0",
		"18008100":           ".half 6144|se_lbz r0, 1, r0",
		"18008101":           "e_addi r0, r0, 256",
		"7e000000":           ".half 32256|se_illegal",
		"7a000002":           "e_bc 0, 0, . + 2",
		"70008000":           ".half 28672|se_lbz r0, 0, r0",

		// 16 and 32 bits, one behind the other
		"0004 70000000 0004":          "se_blr|e_li r0, 0|se_blr",
		"0002 0001 0000 0006":         "se_sc|se_isync|se_illegal|se_bctr",
		"50220008 c18f 5422fff8 0183": "e_lwz r1, 8, r2|se_lwz r24, 4, r31|e_stw r1, -8, r2|se_mr r3, r24",

		// how far branches go
		"e800":     "se_b . + 0",
		"e801":     "se_b . + 2",
		"e87f":     "se_b . + 254",
		"e8ff":     "se_b . - 2",
		"e880":     "se_b . - 256",
		"e900":     "se_bl . + 0",
		"e9ff":     "se_bl . - 2",
		"e000":     "se_bc 0, 0, . + 0",
		"e6fe":     "se_bc 1, 2, . - 4",
		"e302":     "se_bc 0, 3, . + 4",
		"7a000000": "e_bc 0, 0, . + 0",
		"7a1f0004": "e_bc 1, 15, . + 4",
		"7a21fffe": "e_bc 2, 1, . - 2",
		"7a000001": "e_bcl 0, 0, . + 0",
		"7a2a7fff": "e_bcl 2, 10, . + 32766",
		"7a008001": "e_bcl 0, 0, . - 32768",
		"78000000": "e_b . + 0",
		"78000002": "e_b . + 2",
		"79fffffe": "e_b . - 2",
		"79ffffff": "e_bl . - 2",
		"78ffffff": "e_bl . + 16777214",
		"79000001": "e_bl . - 16777216",

		// other numbers below 0, and those that are not
		"1c22ffff": "e_add16i r1, r2, -1",
		"1c220001": "e_add16i r1, r2, 1",
		"1c228000": "e_add16i r1, r2, -32768",
		"18228200": ".half 6178|se_lbz r0, 2, r0",
		"182284fe": "e_addi r1, r2, -2",
		"182287ff": ".half 6178|se_lbz r31, 7, r31",
		"182283ff": "e_addi r1, r2, -16777216",
		"1822c0ff": "e_andi r2, r1, 255",
		"1822d7fe": "e_ori r2, r1, -16777217",
		"1822d77f": "e_ori r2, r1, 2147483647",
		"1822e4ff": "e_xori r2, r1, -1",
		"703f7fff": "e_li r1, -1",
		"70204000": "e_li r1, -524288",
		"303ffff6": "e_lbz r1, -10, r31",
		"343f000a": "e_stb r1, 10, r31",
	} {
		if got := shown(dis.List(bytesOf(t, s))); got != want {
			t.Errorf("P601: %s: %s, not %s", s, got, want)
		}
	}
}

// P601: each instruction, each of its operands at both ends.
func TestEnds(t *testing.T) {
	if len(rows) != 66 {
		t.Fatalf("%d instructions", len(rows))
	}
	var all []byte
	var lines []string
	for _, r := range rows {
		for n := range 1 << len(r.kinds) {
			w, l := r.bits, []string(nil)
			for i, k := range r.kinds {
				e := ends[k][n>>i%2]
				w |= e.bits
				l = append(l, e.text)
			}
			want := r.name
			if len(l) > 0 {
				want += " " + strings.Join(l, ", ")
			}
			b := []byte{byte(w >> 24), byte(w >> 16), byte(w >> 8), byte(w)}[4-r.size:]
			if got := shown(dis.List(b)); got != want {
				t.Errorf("P601: %x: %s, not %s", b, got, want)
			}
			all, lines = append(all, b...), append(lines, want)
		}
	}
	if got := dis.List(all); !slices.Equal(got, lines) {
		t.Errorf("P601: all of them: %s, not %s", brief(shown(got)), brief(shown(lines)))
	}
	same(t, all)
}

// P601: whatever one byte and two bytes are, and three and four of some.
func TestAllShort(t *testing.T) {
	for n := range 1 << 16 {
		two := []byte{byte(n >> 8), byte(n)}
		if n < 256 {
			same(t, two[1:])
		}
		same(t, two)
		if n%7 == 0 {
			same(t, append(two, byte(n/7)))
		}
	}
}

// P601: four bytes: whatever the first two, or the last two, are.
func TestAllLong(t *testing.T) {
	behind := []uint16{0, 1, 0x8000, 0x8101, 0xc3ff, 0xd400, 0xe67f, 0x0214, 0xfa14, 0x0050, 0xf9d6, 0x7fff, 0xfffe}
	for n := range 1 << 16 {
		if n>>12%2 == 0 || n>>12 > 7 {
			continue
		}
		low := behind[n%len(behind)]
		same(t, []byte{byte(n >> 8), byte(n), byte(low >> 8), byte(low)})
	}
	for _, high := range []int{0x1c22, 0x1822, 0x1bff, 0x70a2, 0x703f, 0x7bff, 0x7800, 0x7a1f, 0x7c22, 0x7fff, 0x5022} {
		for n := 0; n < 1<<16; n += 3 {
			same(t, []byte{byte(high >> 8), byte(high), byte(n >> 8), byte(n)})
		}
	}
}

// mixed is bytes of all kinds: any, instructions, beginnings of some.
func mixed(d *rand.Rand, size int) []byte {
	var b []byte
	any, whole := d.Intn(4), d.Intn(4)
	for len(b) < size {
		switch {
		case d.Intn(4) < any:
			b = append(b, byte(d.Intn(256)), byte(d.Intn(256)))
		case d.Intn(4) < whole:
			r := rows[d.Intn(len(rows))]
			w := r.bits
			for _, k := range r.kinds {
				w |= d.Uint32() & mask(k)
			}
			b = append(b, []byte{byte(w >> 24), byte(w >> 16), byte(w >> 8), byte(w)}[4-r.size:]...)
		default:
			b = append(b, []byte{0x18, 0x70, 0x78, 0x7a, 0x7c, 0xe8, 0, 0x50, 0xff, 4}[d.Intn(10)])
		}
	}
	return b[:size]
}

// P601: bytes of all kinds.
func TestMixed(t *testing.T) {
	d := rand.New(rand.NewSource(1))
	for range 3000 {
		same(t, mixed(d, d.Intn(12)))
		same(t, mixed(d, d.Intn(400)))
	}
	for range 40 {
		same(t, mixed(d, d.Intn(8193)))
	}
	for _, size := range []int{4095, 4096, 4097, 8191, 8192} {
		same(t, mixed(d, size))
	}
}

// P601: whatever size is cut off.
func TestCut(t *testing.T) {
	d := rand.New(rand.NewSource(2))
	for range 30 {
		b := mixed(d, 64)
		for n := range len(b) + 1 {
			same(t, b[:n])
			same(t, b[n:])
		}
	}
}

// twenty is an instruction of two bytes whose line, with its line feed, is one of 20.
var twenty = []byte{0xcf, 0xff}

// sizes tells of each fragment its name and its size.
func sizes(l []api.Frag) string {
	var s []string
	for _, f := range l {
		s = append(s, fmt.Sprintf("%s %d", f.Name, len(f.Text)))
	}
	return strings.Join(s, ", ")
}

// P601: as many whole lines as have place in 600 bytes, their line feeds too.
func TestPlace(t *testing.T) {
	full := slices.Repeat(twenty, 29)
	if s := dis.List(twenty); len(s) != 1 || s[0] != "se_lwz r31, 60, r31" {
		t.Fatalf("P601: %v", s)
	}
	for _, y := range []struct{ behind, want string }{
		{"", "p00 580"},
		{"0004", "p00 587"},
		{"c7fe", "p00 600"},
		{"c7fe 00", "p00 600, p01 8"},
		{"53ff0064", "p00 600"},
		{"53ff03e8", "p00 580, p01 21"},
		{"53fffc18", "p00 580, p01 22"},
		{"53ff03e8 0004", "p00 580, p01 28"},
		{"1c22000a", "p00 600"},
		{"1c220064", "p00 580, p01 21"},
		{"0004 0004", "p00 594"},
		{"0004 0004 0002", "p00 600"},
		{"0004 0004 0004", "p00 594, p01 7"},
		{"0004 0004 0004 0002", "p00 594, p01 13"},
		{"0004 0004 0002 0002", "p00 600, p01 6"},
	} {
		b := append(slices.Clone(full), bytesOf(t, y.behind)...)
		if got := sizes(dis.Frags(b)); got != y.want {
			t.Errorf("P601: behind 580 bytes %s: %s, not %s", y.behind, got, y.want)
		}
		same(t, b)
	}
	for n := range 200 {
		l := dis.Frags(slices.Repeat(twenty, n))
		if len(l) != (n+29)/30 {
			t.Errorf("P601: %d lines of 20: %s", n, sizes(l))
		}
		for i, f := range l {
			want := strings.Repeat("se_lwz r31, 60, r31\n", min(30, n-30*i))
			if f.Text != want || f.Name != fmt.Sprintf("p%02d", i) {
				t.Errorf("P601: %d lines of 20: %v", n, f)
			}
		}
	}
}

// P601: names, also of more than 8192 bytes while there are some: p00 to p99, q00 to q99, s00 to s99.
func TestNames(t *testing.T) {
	for n, want := range map[int]string{
		0: "p00", 1: "p01", 9: "p09", 10: "p10", 57: "p57", 98: "p98", 99: "p99",
		100: "q00", 101: "q01", 109: "q09", 110: "q10", 198: "q98", 199: "q99",
		200: "s00", 201: "s01", 299: "s99",
	} {
		for _, lines := range []int{1, 30} {
			l := dis.Frags(slices.Repeat(twenty, 30*n+lines))
			if len(l) != n+1 || l[n].Name != want || l[n].Text != strings.Repeat("se_lwz r31, 60, r31\n", lines) {
				t.Errorf("P601: %d lines: %d fragments, the last %v", 30*n+lines, len(l), l[len(l)-1:])
			}
			if n > 0 && l[0].Name != "p00" {
				t.Errorf("P601: %d lines: the first is %s", 30*n+lines, l[0].Name)
			}
		}
	}
	l := dis.Frags(slices.Repeat(twenty, 4096))
	if len(l) != 137 || l[136].Name != "q36" || len(l[136].Text) != 320 {
		t.Errorf("P601: 8192 bytes: %s", brief(sizes(l)))
	}
	l = dis.Frags(slices.Repeat(twenty, 9000))
	var names []string
	for _, f := range l {
		names = append(names, f.Name)
	}
	if len(names) != 300 || !slices.IsSorted(names) || len(slices.Compact(names)) != 300 {
		t.Errorf("P601, W3: %s", brief(sizes(l)))
	}
}

// P8: where the names do not last there are no fragments: some alone would be another image.
func TestNoNames(t *testing.T) {
	for _, lines := range []int{9001, 9030, 9031, 100000} {
		if l := dis.Frags(slices.Repeat(twenty, lines)); len(l) != 0 {
			t.Errorf("%d lines: %s", lines, brief(sizes(l)))
		}
	}
}
