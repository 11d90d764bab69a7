package expr_test

import (
	"fmt"
	"math"
	"math/rand"
	"slices"
	"strings"
	"testing"
	"unsafe"

	"letterpress/api"
	"letterpress/expr"
)

const bound = 1 << 40

// read is what Parse tells, drawn; "none" beside a false.
func read(s string) string {
	x, is := expr.Parse(s)
	if !is {
		return "none" + strings.TrimPrefix(drawn(x), "0")
	}
	return drawn(x)
}

// readBy is what the oracle tells.
func readBy(s string) string {
	x, is := parsed(s)
	if !is {
		return "none"
	}
	return drawn(x)
}

func mustRead(t *testing.T, s string) api.Expr {
	t.Helper()
	x, is := expr.Parse(s)
	if !is {
		t.Fatalf("P301: %q is not read", s)
	}
	return x
}

// P301: what is one alone, and its edges.
func TestLeaves(t *testing.T) {
	for s, want := range map[string]api.Expr{
		"0": num(0), "5": num(5), "09": num(9), "1234567890": num(1234567890),
		"4294967295": num(1<<32 - 1), "0xffffffff": num(1<<32 - 1),
		"0x0": num(0), "0xa": num(10), "0x9f": num(159), "0xabcdef": num(0xabcdef), "0x00": num(0),
		strings.Repeat("0", 40) + "12": num(12), "0x" + strings.Repeat("0", 40) + "12": num(18),
		strings.Repeat("0", 40) + "4294967295": num(1<<32 - 1), "0x" + strings.Repeat("0", 40) + "ffffffff": num(1<<32 - 1),
		".": here, " . ": here, "  7   ": num(7), " a": name("a"),
		"a": name("a"), "z": name("z"), "_": name("_"), "a0": name("a0"), "a9z_": name("a9z_"), "__1": name("__1"), "x": name("x"), "_0": name("_0"),
		"r": name("r"), "r1a": name("r1a"), "r_": name("r_"), "r_1": name("r_1"), "ra": name("ra"), "rr1": name("rr1"), "r1_": name("r1_"), "_r1": name("_r1"), "s1": name("s1"), "q1": name("q1"),
		"twelve_bytes": name("twelve_bytes"), "r0123456789a": name("r0123456789a"), "a01234567890": name("a01234567890"),
	} {
		if got := read(s); got != drawn(want) {
			t.Errorf("P301: %q: %s, not %s", s, got, drawn(want))
		}
	}
	for _, s := range []string{
		"4294967296", "0x100000000", "9999999999", "18446744073709551616", "18446744073709551621", "0x10000000000000000", "0x10000000000000005", strings.Repeat("9", 1000), "0x" + strings.Repeat("f", 1000),
		"0x", "0X1", "0xA", "0xF", "0x1F", "0xg", "0x1g", "0x_1", "0x 1", "0 x1", "1_0", "_ 1", "00x1", "x0 x", "0x0x0", "1a", "12ab", "0b1", "0o7", "1e3", "0x-1", "0x+1", "0x.1",
		"r0", "r1", "r31", "r32", "r007", "r01234567890", "r012345678901", "thirteen_byte", "a012345678901", "r0123456789ab",
		"A", "aB", "Ab", "a-", "a'", "'a'", "$", "@a", "a@", "`", "{", "/", ":", "^", "[", "é", "aé", "ａ", "１", "²", "٣", "K", "ſ",
	} {
		if got := read(s); got != "none" {
			t.Errorf("P301: %q: %s", s, got)
		}
	}
}

// P301: each sign, alone and beside each other one, with and without blanks and brackets.
func TestSigns(t *testing.T) {
	binds := map[string]int{"*": 5, "+": 4, "-": 4, "<<": 3, ">>": 3, "&": 2, "|": 1}
	a, b, c := name("a"), name("b"), name("c")
	for s, k := range kinds {
		for _, text := range []string{"a" + s + "b", "a " + s + " b", "a" + s + " b", "a " + s + "b", "  a   " + s + "   b  ", "(a)" + s + "(b)", "(a" + s + "b)", " ( ( a ) " + s + " b ) "} {
			if got, want := read(text), drawn(two(k, a, b)); got != want {
				t.Errorf("P301: %q: %s, not %s", text, got, want)
			}
		}
		for _, text := range []string{"-a" + s + "b", "- a " + s + " b", "(-a)" + s + "b"} {
			if got, want := read(text), drawn(two(k, neg(a), b)); got != want {
				t.Errorf("P301: %q: %s, not %s", text, got, want)
			}
		}
		for _, text := range []string{"a" + s + "-b", "a " + s + " - b", "a" + s + "(-b)"} {
			if got, want := read(text), drawn(two(k, a, neg(b))); got != want {
				t.Errorf("P301: %q: %s, not %s", text, got, want)
			}
		}
		if got, want := read("-(a"+s+"b)"), drawn(neg(two(k, a, b))); got != want {
			t.Errorf("P301: -(a%sb): %s, not %s", s, got, want)
		}
		for r, m := range kinds {
			left, right := drawn(two(m, two(k, a, b), c)), drawn(two(k, a, two(m, b, c)))
			want := left
			if binds[r] > binds[s] {
				want = right
			}
			for text, want := range map[string]string{
				"a" + s + "b" + r + "c":        want,
				"a " + s + " b " + r + " c":    want,
				"(a" + s + "b)" + r + "c":      left,
				"a" + s + "(b" + r + "c)":      right,
				"((a)" + s + "((b" + r + "c))": "none",
			} {
				if got := read(text); got != want {
					t.Errorf("P301: %q: %s, not %s", text, got, want)
				}
			}
		}
	}
}

// P301: by hand, rows that are longer.
func TestRows(t *testing.T) {
	for s, want := range map[string]api.Expr{
		"1+2*3-4":             two(api.ESub, two(api.EAdd, num(1), two(api.EMul, num(2), num(3))), num(4)),
		"1|2&3<<4+5*6":        two(api.EOr, num(1), two(api.EAnd, num(2), two(api.EShl, num(3), two(api.EAdd, num(4), two(api.EMul, num(5), num(6)))))),
		"1*2+3>>4&5|6":        two(api.EOr, two(api.EAnd, two(api.EShr, two(api.EAdd, two(api.EMul, num(1), num(2)), num(3)), num(4)), num(5)), num(6)),
		"1--2":                two(api.ESub, num(1), neg(num(2))),
		"1---2":               two(api.ESub, num(1), neg(neg(num(2)))),
		"- -1":                neg(neg(num(1))),
		"-(-(1))":             neg(neg(num(1))),
		"-.":                  neg(here),
		". - .":               two(api.ESub, here, here),
		".-a":                 two(api.ESub, here, name("a")),
		".*.":                 two(api.EMul, here, here),
		"(1)":                 num(1),
		"-0x10":               neg(num(16)),
		"-4294967295":         neg(num(1<<32 - 1)),
		"0x1+0x2":             two(api.EAdd, num(1), num(2)),
		"a+(b-c)":             two(api.EAdd, name("a"), two(api.ESub, name("b"), name("c"))),
		"-(a+b)*c":            two(api.EMul, neg(two(api.EAdd, name("a"), name("b"))), name("c")),
		"r-r1a":               two(api.ESub, name("r"), name("r1a")),
		"1 << 2 << 3 >> 4":    two(api.EShr, two(api.EShl, two(api.EShl, num(1), num(2)), num(3)), num(4)),
		"(1 << (2 << 3)) & 4": two(api.EAnd, two(api.EShl, num(1), two(api.EShl, num(2), num(3))), num(4)),
	} {
		if got := read(s); got != drawn(want) {
			t.Errorf("P301: %q: %s, not %s", s, got, drawn(want))
		}
		if got := readBy(s); got != drawn(want) {
			t.Errorf("the oracle: %q: %s, not %s", s, got, drawn(want))
		}
	}
}

// P301: what is none, and what its zero value beside it is (P4).
func TestNone(t *testing.T) {
	bad := []string{
		"", " ", "    ", "\t", "\n", "\x00", "-", "--", "- -", "(", ")", "()", "( )", ")(", "(1", "1)", "((1)", "(1))", "(1)(2)", "(1) (2)", "1(2)", "(1)2", "a(b)", "-)", "(-", "(-)", "-()", "-(1", "-1)",
		"1 2", "1 a", "a 1", "a b", "a .", ". a", ". .", "..", ".1", "1.", ".a", "a.", "a.b", "(a)b", "1+2 3", "1 2+3", "a r1", "r1+a", "a+r1", "-r1", "(r1)", "a+4294967296", "4294967296*0", "(4294967296)", "-4294967296",
		"1 < 2", "1 > 2", "1 < < 2", "1 > > 2", "1<2", "1><2", "1<>2", "1<<<2", "1>>>2", "1<<>>2", "<1", "<<", ">>", "1<", "1<<", "1&&2", "1||2", "1**2", "1++2", "1+*2", "1*+2", "1-+2", "1/2", "1%2", "1^2", "1=2", "1,2", "1;2", "1#", "# 1", "~1", "!1", "+1", "+ +1", "1+-", "1-", "1--", "\"a\"",
		"1\t+2", "1+\t2", "\t1", "1\t", "1\n", "\n1", "1\r", "1\v+2", "1\f", "1\u00a0", "\u00a01", "\u20001", "1\x00", "1 \x00+ 2", "a\xff", "\xffa", "\xff", "\xc2", "a+\xe2\x82", "1+\xf0\x9f\x98\x80", "\ufeff1", "\ufffd", "−1", "1×2", "«",
	}
	for s := range kinds {
		bad = append(bad, s, " "+s+" ", "a"+s, "a "+s+" ", "("+s+")", "(a"+s+")", "a"+s+")", "a"+s+"()", "a+b"+s)
		if s != "-" {
			bad = append(bad, s+"a", " "+s+" a", "("+s+"a)", "a*"+s+"b", "-"+s+"a", "a+("+s+"b)", "a"+s+"("+s+"b)", s+"(a)")
		}
	}
	for _, s := range bad {
		if got := read(s); got != "none" {
			t.Errorf("P301: %q: %s", s, got)
		}
		if got := readBy(s); got != "none" {
			t.Errorf("the oracle: %q: %s", s, got)
		}
	}
}

// P301: each byte alone, ahead of, within and behind what is right.
func TestBytes(t *testing.T) {
	for c := range 256 {
		b := string([]byte{byte(c)})
		for _, s := range []string{b, b + "a", "a" + b, "a" + b + "a", "1" + b, b + "1", "1" + b + "2", "0x" + b, "0x1" + b, "(" + b + ")", "a +" + b + " b", "a <" + b + " b", "a <<" + b + "b", b + b, "a" + b + b + "b", "r" + b, "r" + b + "1", "r1" + b, "." + b + "."} {
			if got, want := read(s), readBy(s); got != want {
				t.Errorf("P301: %q: %s, not %s", s, got, want)
			}
		}
	}
}

// P301: all that few pieces may be, and some of what many may be, as the oracle tells it.
func TestAllTexts(t *testing.T) {
	pieces := []string{"1", "0x", "a", "r", ".", "(", ")", "-", "+", "*", "<<", ">", "&", "|", " ", "9", "A"}
	right := 0
	check := func(s string) {
		got, want := read(s), readBy(s)
		if got != want {
			t.Fatalf("P301: %q: %s, not %s", s, got, want)
		}
		if got != "none" {
			right++
		}
	}
	var all func(s string, more int)
	all = func(s string, more int) {
		check(s)
		if more == 0 {
			return
		}
		for _, p := range pieces {
			all(s+p, more-1)
		}
	}
	all("", 4)
	if right < 2000 {
		t.Errorf("only %d of all short texts are right", right)
	}
	d := rand.New(rand.NewSource(301))
	for range 60000 {
		var s strings.Builder
		for range 5 + d.Intn(12) {
			s.WriteString(pieces[d.Intn(len(pieces))])
		}
		check(s.String())
	}
	right = 0
	for range 60000 {
		check(strewn(d))
	}
	if right < 20000 {
		t.Errorf("only %d of the long texts are right", right)
	}
}

// strewn is a text that is mostly right.
func strewn(d *rand.Rand) string {
	blank := func() string { return strings.Repeat(" ", max(0, d.Intn(5)-2)) }
	leaves := []string{"0", "12", "0x1f", "4294967295", "0xffffffff", "a", "r", "r1a", "_x9", ".", "twelve_bytes"}
	signs := []string{"*", "+", "-", "<<", ">>", "&", "|"}
	bad := []string{"", "4294967296", "r7", "thirteen_byte", "0x", "+", ")", "(", "< <", "\t"}
	var s strings.Builder
	open := 0
	for i := range 1 + d.Intn(12) {
		if i > 0 {
			s.WriteString(signs[d.Intn(len(signs))] + blank())
		}
		for d.Intn(3) == 0 {
			ahead := []string{"-", "("}[d.Intn(2)]
			if ahead == "(" {
				open++
			}
			s.WriteString(ahead + blank())
		}
		if d.Intn(50) == 0 {
			s.WriteString(bad[d.Intn(len(bad))])
		} else {
			s.WriteString(leaves[d.Intn(len(leaves))])
		}
		for s.WriteString(blank()); open > 0 && d.Intn(2) == 0; open-- {
			s.WriteString(")" + blank())
		}
	}
	if d.Intn(20) > 0 {
		s.WriteString(strings.Repeat(")", open))
	}
	return s.String()
}

// P301: twelve within one another, and thirteen: brackets and signs ahead in each order.
func TestDeep(t *testing.T) {
	around := func(order, n int, s string) string {
		for i := range n {
			if order>>i&1 == 1 {
				s = "-" + s
			} else {
				s = "(" + s + ")"
			}
		}
		return s
	}
	for order := range 1 << 13 {
		if got := read(around(order, 12, "1")); got == "none" {
			t.Fatalf("P301: %s is not read", around(order, 12, "1"))
		}
		if got := read(around(order, 13, "1")); got != "none" {
			t.Fatalf("P301: %s: %s", around(order, 13, "1"), got)
		}
	}
	brackets, minus := around(0, 12, "a"), around(1<<12-1, 12, "a")
	for s, want := range map[string]bool{
		brackets + "+" + brackets + "*" + minus:                          true,
		minus + " - " + minus:                                            true,
		minus + "-" + around(0, 13, "a"):                                 false,
		around(0, 13, "a") + "|" + minus:                                 false,
		"(" + brackets + "+1)":                                           false,
		"(1+" + around(0, 11, "a") + ")":                                 true,
		"-(" + around(0, 10, "1") + "+" + around(1<<10-1, 10, "1") + ")": true,
		"-(" + around(0, 10, "1") + "+" + around(1<<11-1, 11, "1") + ")": false,
		strings.Repeat("(1+", 12) + "1" + strings.Repeat(")", 12):        true,
		strings.Repeat("(1+", 13) + "1" + strings.Repeat(")", 13):        false,
		strings.Repeat("(", 12) + "1" + strings.Repeat("+1)", 12):        true,
		strings.Repeat("(", 13) + "1" + strings.Repeat("+1)", 13):        false,
		strings.Repeat("1-", 13) + "1":                                   true,
		strings.Repeat("(1)-", 40) + "(1)":                               true,
		strings.Repeat("-1-", 40) + "-1":                                 true,
		strings.Repeat("1--", 40) + "1":                                  true,
		"1-" + strings.Repeat("-", 12) + "1":                             true,
		"1-" + strings.Repeat("-", 13) + "1":                             false,
		strings.Repeat("- ", 12) + "1":                                   true,
		strings.Repeat("( ", 12) + "1" + strings.Repeat(" )", 12):        true,
	} {
		if got := read(s) != "none"; got != want {
			t.Errorf("P301: %s: %v, not %v", s, got, want)
		}
		if got := readBy(s) != "none"; got != want {
			t.Errorf("the oracle: %s: %v, not %v", s, got, want)
		}
	}
}

// P301: a row is as long as its text is, each next one around what is ahead of it.
func TestLongRow(t *testing.T) {
	const n = 20000
	x := mustRead(t, "1"+strings.Repeat(" + -a", n))
	for range n {
		if x.Kind != api.EAdd || len(x.L) != 2 || drawn(x.L[1]) != drawn(neg(name("a"))) {
			t.Fatalf("P301: %d %v", x.Kind, x.L[1])
		}
		x = x.L[0]
	}
	if drawn(x) != drawn(num(1)) {
		t.Errorf("P301: %s", drawn(x))
	}
}

// P301: Text by hand.
func TestText(t *testing.T) {
	for want, x := range map[string]api.Expr{
		"0": num(0), "4294967295": num(1<<32 - 1), "16": mustRead(t, "0x10"), "7": mustRead(t, "007"),
		"twelve_bytes": name("twelve_bytes"), ".": here,
		"-1": neg(num(1)), "-.": neg(here), "-a": neg(name("a")), "--a": neg(neg(name("a"))), "-(a + b)": neg(two(api.EAdd, name("a"), name("b"))), "--(. | 1)": neg(neg(two(api.EOr, here, num(1)))),
		"a + b": two(api.EAdd, name("a"), name("b")), "a - b": two(api.ESub, name("a"), name("b")), "a * b": two(api.EMul, name("a"), name("b")), "a & b": two(api.EAnd, name("a"), name("b")),
		"a | b": two(api.EOr, name("a"), name("b")), "a << b": two(api.EShl, name("a"), name("b")), "a >> b": two(api.EShr, name("a"), name("b")),
		"-1 - -2":             two(api.ESub, neg(num(1)), neg(num(2))),
		"(1 + 2) * 3":         mustRead(t, "(1+2)*3"),
		"1 + (2 * 3)":         mustRead(t, "1+2*3"),
		"(a - b) - c":         mustRead(t, "a-b-c"),
		"(a * b) + (c * d)":   mustRead(t, "a*b+c*d"),
		"-(a * -(b + c))":     mustRead(t, "-(a*-(b+c))"),
		"((1 | 2) | 3) | 4":   mustRead(t, "1|2|3|4"),
		"1 + (2 + (3 + 4))":   mustRead(t, "1+(2+(3+4))"),
		"a & (b >> -(c - 1))": mustRead(t, "a&b>>-(c-1)"),
	} {
		if got := expr.Text(x); got != want {
			t.Errorf("P301: %q, not %q", got, want)
		}
	}
}

// P301, P303: of many expressions, the text as the oracle tells it; it is read as it was, if it is no deeper than may be, and else not.
func TestThereAndBack(t *testing.T) {
	d := rand.New(rand.NewSource(303))
	back, deeper := 0, 0
	for i := range 40000 {
		x := some(d, 1+i%16)
		s := expr.Text(x)
		want, deep := told(x)
		if s != want {
			t.Fatalf("P301: %q, not %q", s, want)
		}
		y, is := expr.Parse(s)
		switch {
		case deep > 12:
			deeper++
			if is {
				t.Fatalf("P301: %q is %d deep", s, deep)
			}
		case !is || drawn(x) != drawn(y):
			t.Fatalf("P303: %q: %s, not %s", s, drawn(y), drawn(x))
		default:
			back++
		}
	}
	if back < 1000 || deeper < 1000 {
		t.Errorf("only %d there and back, %d deeper", back, deeper)
	}
}

// P303: what any text is read as, is told so that it is read as that again.
func TestReadAgain(t *testing.T) {
	d := rand.New(rand.NewSource(304))
	for range 20000 {
		s := strewn(d)
		x, is := expr.Parse(s)
		if !is {
			continue
		}
		if _, deep := told(x); deep > 12 {
			continue
		}
		if got, want := read(expr.Text(x)), drawn(x); got != want {
			t.Fatalf("P303: %q, told %q: %s, not %s", s, expr.Text(x), got, want)
		}
	}
}

// P303: exactly at the edge of what may be.
func TestBackAtTheEdge(t *testing.T) {
	row := func(n int) api.Expr {
		x := num(1)
		for range n {
			x = two(api.EAdd, x, num(1))
		}
		return x
	}
	minus := func(n int, x api.Expr) api.Expr {
		for range n {
			x = neg(x)
		}
		return x
	}
	for i, c := range []struct {
		x  api.Expr
		is bool
	}{
		{row(13), true}, {row(14), false}, {minus(12, num(1)), true}, {minus(13, num(1)), false},
		{minus(11, row(1)), true}, {minus(12, row(1)), false}, {minus(1, row(11)), true}, {minus(1, row(12)), false},
		{two(api.EMul, row(12), minus(12, here)), true}, {two(api.EMul, row(13), here), false}, {two(api.EShl, here, minus(13, here)), false},
	} {
		y, is := expr.Parse(expr.Text(c.x))
		if is != c.is || is && drawn(y) != drawn(c.x) {
			t.Errorf("P303: %d: %s: %v", i, expr.Text(c.x), is)
		}
	}
}

// P301: words from left to right, each once.
func TestNames(t *testing.T) {
	for s, want := range map[string][]string{
		"1": nil, ".": nil, "-(1 + .)": nil, "a": {"a"}, "-a": {"a"}, "a+a": {"a"}, "b+a": {"b", "a"}, "a+b+a+b": {"a", "b"}, "c*(b-(a|c))&d": {"c", "b", "a", "d"}, "z<<y>>x<<z": {"z", "y", "x"}, "1 + (2 * (a - 3)) - --b": {"a", "b"}, "r + ra + r": {"r", "ra"},
	} {
		if got := expr.Names(mustRead(t, s)); !slices.Equal(got, want) {
			t.Errorf("P301: %q: %v, not %v", s, got, want)
		}
	}
	d := rand.New(rand.NewSource(305))
	for range 5000 {
		x := some(d, 7)
		if got, want := expr.Names(x), met(x); !slices.Equal(got, want) {
			t.Fatalf("P301: %s: %v, not %v", expr.Text(x), got, want)
		}
	}
}

// P302: by hand.
func TestEval(t *testing.T) {
	syms := []api.Sym{{Name: "a", Value: 5}, {Name: "big", Value: bound}, {Name: "low", Value: -bound}, {Name: "zero"}, {Name: "a", Value: 6}, {Name: "zero", Value: 1}, {Name: "b", Value: -7}}
	for s, want := range map[string]reply{
		"a": {5, api.OK}, "zero": {0, api.OK}, "b": {-7, api.OK}, ".": {1000, api.OK}, "-.": {-1000, api.OK}, "none": {0, api.Name}, "aa": {0, api.Name}, "_a": {0, api.Name}, "big": {bound, api.OK}, "low": {-bound, api.OK},
		"4294967295": {1<<32 - 1, api.OK}, "-4294967295": {-(1<<32 - 1), api.OK},
		"big+0": {bound, api.OK}, "big+1": {0, api.Range}, "big-1": {bound - 1, api.OK}, "big+low": {0, api.OK}, "big+big": {0, api.Range}, "low-1": {0, api.Range}, "low+1": {-bound + 1, api.OK}, "low+low": {0, api.Range}, "low-big": {0, api.Range}, "big-low": {0, api.Range}, "low-low": {0, api.OK}, "-low": {bound, api.OK}, "-big": {-bound, api.OK}, "--big": {bound, api.OK},
		"a*b": {-35, api.OK}, "b*b": {49, api.OK}, "big*1": {bound, api.OK}, "big*-1": {-bound, api.OK}, "low*-1": {bound, api.OK}, "big*0": {0, api.OK}, "0*low": {0, api.OK}, "big*2": {0, api.Range}, "low*2": {0, api.Range}, "big*big": {0, api.Range}, "low*low": {0, api.Range}, "big*low": {0, api.Range},
		// These products, in 64 bits, are 0, or small.
		"(1<<32)*(1<<32)": {0, api.Range}, "(1<<33)*(1<<31)": {0, api.Range}, "((1<<32)+1)*(1<<32)": {0, api.Range}, "((1<<32)+1)*((1<<32)-1)": {0, api.Range}, "((1<<33)+2)*((1<<31)+1)": {0, api.Range}, "(1<<40)*(1<<24)": {0, api.Range}, "-(1<<40)*(1<<24)": {0, api.Range},
		"1048576*1048576": {bound, api.OK}, "1048577*1048576": {0, api.Range}, "-1048576*1048576": {-bound, api.OK}, "-1048577*1048576": {0, api.Range}, "1048575*1048577": {bound - 1, api.OK},
		"12&10": {8, api.OK}, "12|10": {14, api.OK}, "-1&255": {255, api.OK}, "-8|3": {-5, api.OK}, "-8&-3": {-8, api.OK}, "big&-1": {bound, api.OK}, "big&(big-1)": {0, api.OK}, "low&low": {-bound, api.OK}, "low&1": {0, api.OK}, "low|1": {-bound + 1, api.OK}, "big|low": {-bound, api.OK}, "big|1": {0, api.Range}, "big|0": {bound, api.OK}, "big|(big-1)": {0, api.Range}, "big|-1": {-1, api.OK},
		"1<<0": {1, api.OK}, "1<<39": {1 << 39, api.OK}, "1<<40": {bound, api.OK}, "1<<41": {0, api.Range}, "0<<41": {0, api.Range}, "0<<40": {0, api.OK}, "2<<40": {0, api.Range}, "2<<39": {bound, api.OK}, "-1<<40": {-bound, api.OK}, "-2<<40": {0, api.Range}, "-1<<41": {0, api.Range}, "1<<-1": {0, api.Range}, "0<<-1": {0, api.Range}, "big<<0": {bound, api.OK}, "big<<1": {0, api.Range}, "big<<24": {0, api.Range}, "big<<40": {0, api.Range}, "low<<24": {0, api.Range}, "1<<64": {0, api.Range}, "1<<big": {0, api.Range}, "1<<low": {0, api.Range}, "a<<3": {40, api.OK}, "b<<3": {-56, api.OK},
		"1>>0": {1, api.OK}, "1>>1": {0, api.OK}, "-1>>40": {-1, api.OK}, "-1>>0": {-1, api.OK}, "big>>40": {1, api.OK}, "big>>39": {2, api.OK}, "low>>40": {-1, api.OK}, "low>>39": {-2, api.OK}, "big>>41": {0, api.Range}, "0>>41": {0, api.Range}, "1>>-1": {0, api.Range}, "0>>-1": {0, api.Range}, "-5>>1": {-3, api.OK}, "5>>1": {2, api.OK}, "-7>>2": {-2, api.OK}, "1>>64": {0, api.Range},
		"1+2*3": {7, api.OK}, "(1+2)*3": {9, api.OK}, "10-3-2": {5, api.OK}, "10-(3-2)": {9, api.OK}, "-2*3": {-6, api.OK}, "2*-3": {-6, api.OK}, "1<<2+1": {8, api.OK}, "1|6&4": {5, api.OK}, "100>>2>>1": {12, api.OK}, "1<<2<<3": {32, api.OK}, ".-a": {995, api.OK}, ".+.": {2000, api.OK},
	} {
		n, e := expr.Eval(mustRead(t, s), 1000, syms)
		if n != want.n || e != want.e {
			t.Errorf("P302: %q: %d %v, not %d %v", s, n, e, want.n, want.e)
		}
	}
}

// reply is what Eval answers.
type reply struct {
	n int
	e api.Errno
}

// P302: the first error from left to right counts, and nothing that comes behind it.
func TestFirstError(t *testing.T) {
	syms := []api.Sym{{Name: "big", Value: bound}}
	for s, want := range map[string]api.Errno{
		"none + (big + 1)": api.Name, "(big + 1) + none": api.Range, "big + 1 + none": api.Range, "none + big + 1": api.Name, "big + none + 1": api.Name,
		"none << 41": api.Name, "1 << none": api.Name, "1 << 41 + none": api.Name, "(1 << 41) + none": api.Range, "none >> -1": api.Name, "(1 >> -1) * none": api.Range, "(big * 2) << none": api.Range, "big << (none | 1)": api.Name, "big << 1 | none": api.Range,
		"none * (1 << 41)": api.Name, "(1 << 41) * none": api.Range, "-none": api.Name, "-(big + big)": api.Range, "-(big + big) + none": api.Range, "-none + (big + big)": api.Name,
		"0 * none": api.Name, "0 & none": api.Name, "0 * (big + 1)": api.Range, "none - none": api.Name, "(big | 1) & none": api.Range, "big * big - big * big": api.Range, "big + 1 - 1": api.Range, "big + (1 - 1)": api.OK, "big - 1 + 1": api.OK,
	} {
		if n, e := expr.Eval(mustRead(t, s), 0, syms); e != want || e != api.OK && n != 0 {
			t.Errorf("P302: %q: %d %v, not %v", s, n, e, want)
		}
	}
}

// edges are numbers at which something turns.
func edges() []int {
	var l []int
	for k := range 41 {
		n := 1 << k
		l = append(l, n-1, n, n+1, -n+1, -n, -n-1)
	}
	l = append(l, 3, 5, 10, 12, 1048573, 6700417, 123456789012)
	l = slices.DeleteFunc(l, func(n int) bool { return n < -bound || n > bound })
	slices.Sort(l)
	return slices.Compact(l)
}

// P302: each sign of each two edges, as the oracle tells it.
func TestEdges(t *testing.T) {
	l := edges()
	for _, a := range l {
		for _, b := range l {
			syms := []api.Sym{{Name: "a", Value: a}, {Name: "b", Value: b}}
			for _, kind := range kinds {
				x := two(kind, name("a"), name("b"))
				want, wantE := reckoned(x, 0, syms)
				n, e := expr.Eval(x, 0, syms)
				if e != wantE || e == api.OK && want.Int64() != int64(n) || e != api.OK && n != 0 {
					t.Fatalf("P302: %d %s %d: %d %v, not %v %v", a, written(kind), b, n, e, want, wantE)
				}
			}
		}
		n, e := expr.Eval(neg(name("a")), 0, []api.Sym{{Name: "a", Value: a}})
		if n != -a || e != api.OK {
			t.Errorf("P302: -%d: %d %v", a, n, e)
		}
	}
}

// P302: many expressions, as the oracle tells it.
func TestEvalMany(t *testing.T) {
	d := rand.New(rand.NewSource(302))
	l := edges()
	count := map[api.Errno]int{}
	for i := range 60000 {
		x := some(d, 1+i%7)
		var syms []api.Sym
		for _, s := range []string{"a", "b", "_", "r", "low", "high", "twelve_bytes", "a", "low"} {
			if d.Intn(12) > 0 {
				syms = append(syms, api.Sym{Name: s, Value: l[d.Intn(len(l))] >> (d.Intn(4) * 10)})
			}
		}
		at := []int{0, 1, 4095, 1<<20 - 1, 1 << 20}[d.Intn(5)]
		want, wantE := reckoned(x, at, syms)
		n, e := expr.Eval(x, at, syms)
		if e != wantE || e == api.OK && want.Int64() != int64(n) || e != api.OK && n != 0 {
			t.Fatalf("P302: %s at %d by %v: %d %v, not %v %v", expr.Text(x), at, syms, n, e, want, wantE)
		}
		count[e]++
	}
	if len(count) != 3 || count[api.OK] < 5000 || count[api.Name] < 2000 || count[api.Range] < 5000 {
		t.Errorf("too few of some: %v", count)
	}
}

// P302: of two of one name the first one counts, wherever they stand, and whatever the second one is.
func TestSymbols(t *testing.T) {
	for i, c := range []struct {
		syms []api.Sym
		want reply
	}{
		{nil, reply{0, api.Name}},
		{[]api.Sym{}, reply{0, api.Name}},
		{[]api.Sym{{Name: "b", Value: 1}}, reply{0, api.Name}},
		{[]api.Sym{{Name: "a", Value: 1}}, reply{1, api.OK}},
		{[]api.Sym{{Name: "a", Value: 1}, {Name: "a", Value: 2}}, reply{1, api.OK}},
		{[]api.Sym{{Name: "a", Value: 2}, {Name: "a", Value: 1}}, reply{2, api.OK}},
		{[]api.Sym{{Name: "b", Value: 3}, {Name: "a", Value: 2}, {Name: "b", Value: 4}, {Name: "a", Value: 1}}, reply{2, api.OK}},
		{[]api.Sym{{Name: "aa", Value: 3}, {Name: "", Value: 2}, {Name: "A", Value: 4}, {Name: "a ", Value: 1}}, reply{0, api.Name}},
	} {
		if n, e := expr.Eval(name("a"), 0, c.syms); n != c.want.n || e != c.want.e {
			t.Errorf("P302: %d: %d %v", i, n, e)
		}
	}
}

// P302: here at its edges.
func TestHere(t *testing.T) {
	for _, at := range []int{0, 1, 2, 4096, 1<<20 - 1, 1 << 20} {
		if n, e := expr.Eval(here, at, nil); n != at || e != api.OK {
			t.Errorf("P302: . at %d: %d %v", at, n, e)
		}
		if n, e := expr.Eval(two(api.ESub, here, num(at)), at, nil); n != 0 || e != api.OK {
			t.Errorf("P302: . - %d: %d %v", at, n, e)
		}
	}
}

// P302, P9: numbers that may not be are refused, not clamped, where they are reckoned; and only there.
func TestOutOfBounds(t *testing.T) {
	for _, at := range []int{-1, 1<<20 + 1, bound, bound + 1, math.MaxInt, math.MinInt} {
		if n, e := expr.Eval(here, at, nil); n != 0 || e != api.Range {
			t.Errorf("P9: . at %d: %d %v", at, n, e)
		}
		if n, e := expr.Eval(num(3), at, nil); n != 3 || e != api.OK {
			t.Errorf("P302: 3 at %d: %d %v", at, n, e)
		}
	}
	for _, v := range []int{bound + 1, -bound - 1, 1 << 41, math.MaxInt, math.MinInt, math.MinInt + 1} {
		syms := []api.Sym{{Name: "a", Value: v}, {Name: "b", Value: 4}}
		for _, x := range []api.Expr{name("a"), num(v), neg(num(v)), two(api.ESub, name("a"), name("a")), two(api.EMul, num(0), name("a")), two(api.EAnd, num(v), num(0)), two(api.EShl, num(0), num(v)), two(api.EShr, num(v), num(40))} {
			if n, e := expr.Eval(x, 0, syms); n != 0 || e != api.Range {
				t.Errorf("P302: %s by %d: %d %v", expr.Text(x), v, n, e)
			}
		}
		if n, e := expr.Eval(name("b"), 0, syms); n != 4 || e != api.OK {
			t.Errorf("P302: b beside %d: %d %v", v, n, e)
		}
	}
	for _, v := range []int{bound, -bound, -1} {
		if n, e := expr.Eval(num(v), 0, nil); n != v || e != api.OK {
			t.Errorf("P302: a number of %d: %d %v", v, n, e)
		}
	}
}

// P1, P4: whatever Parse is given.
func TestAnyText(t *testing.T) {
	d := rand.New(rand.NewSource(1))
	for range 50000 {
		b := make([]byte, d.Intn(30))
		for i := range b {
			b[i] = byte(d.Intn(256))
			if d.Intn(2) == 0 {
				b[i] = " -(.)+*<>&|09afx_r"[d.Intn(18)]
			}
		}
		if got, want := read(string(b)), readBy(string(b)); got != want {
			t.Fatalf("P301: %q: %s, not %s", b, got, want)
		}
	}
}

// P1, P301: pieces, so many of them that what went deeper with each would not end well; alone, and with a 1 behind.
func TestLongText(t *testing.T) {
	const n = 1 << 16
	for piece, want := range map[string][2]bool{
		"(": {}, ")": {}, "-": {}, "(-": {}, "-(": {}, "()": {}, "+": {}, "<": {}, "<<": {}, "1(": {}, "(1+": {}, "(1)": {}, "1-(": {}, "1--(": {}, ".": {}, "1 ": {}, "a": {}, "r": {}, "0x": {}, "1": {}, "é": {}, "\xff": {}, "\x00": {},
		" ": {false, true}, "0": {true, true}, "1+": {false, true}, "1 * ": {false, true}, "a<<": {false, true}, "(1)|": {false, true}, "-1-": {false, true}, "1--": {false, true}, "1|1&1<<1+1*": {false, true},
	} {
		s := strings.Repeat(piece, n)
		_, alone := expr.Parse(s)
		_, with := expr.Parse(s + "1")
		if alone != want[0] || with != want[1] {
			t.Errorf("P301: many %q: %v, and with a 1 behind: %v", piece, alone, with)
		}
	}
}

// P1: whatever an expression is; P2: it is not changed.
func TestAnyExpr(t *testing.T) {
	d := rand.New(rand.NewSource(2))
	for range 50000 {
		x := wild(d, 4)
		was := drawn(x)
		syms := []api.Sym{{Name: []string{"", "a", "r1", "\xff"}[d.Intn(4)], Value: []int{0, -1, math.MaxInt, math.MinInt}[d.Intn(4)]}}
		at := []int{0, -1, math.MaxInt, math.MinInt}[d.Intn(4)]
		s, l := expr.Text(x), expr.Names(x)
		n, e := expr.Eval(x, at, syms)
		if e != api.OK && n != 0 || n < -bound || n > bound {
			t.Fatalf("P4: %s: %d %v", was, n, e)
		}
		m, f := expr.Eval(x, at, syms)
		if s != expr.Text(x) || !slices.Equal(l, expr.Names(x)) || m != n || f != e {
			t.Fatalf("P3: %s", was)
		}
		if drawn(x) != was {
			t.Fatalf("P2: %s: %s", was, drawn(x))
		}
	}
}

// P1, P9: what is of no kind, or has not as many children as its kind has, is refused: no text, no names, Range.
func TestMisshapen(t *testing.T) {
	one := []api.Expr{name("a")}
	for _, kind := range []int{-1, 0, 1, 2, 3, 4, 5, 6, 7, 8, 9, 10, 11, 12, 13, 255, 1<<32 + 1, 1<<32 + 5, math.MinInt, math.MaxInt} {
		for n := range 5 {
			if kind >= 1 && kind <= 11 && n == []int{0, 0, 0, 0, 1, 2, 2, 2, 2, 2, 2, 2}[kind] {
				continue
			}
			x := api.Expr{Kind: kind, N: 3, Name: "a", L: slices.Repeat(one, n)}
			v, e := expr.Eval(x, 0, []api.Sym{{Name: "a", Value: 1}})
			if s, l := expr.Text(x), expr.Names(x); s != "" || len(l) > 0 || v != 0 || e != api.Range {
				t.Errorf("P9: kind %d with %d children: %q %v %d %v", kind, n, s, l, v, e)
			}
			y := two(api.EAdd, name("none"), x)
			if _, e := expr.Eval(y, 0, nil); e != api.Name {
				t.Errorf("P302: a word, then what is none: %v", e)
			}
			if l := expr.Names(two(api.EAdd, x, name("b"))); !slices.Equal(l, []string{"b"}) {
				t.Errorf("P301: what is none, then a word: %v", l)
			}
		}
	}
}

// P301, P302: the fields that an expression's kind does not name do not count.
func TestOtherFields(t *testing.T) {
	syms := []api.Sym{{Name: "a", Value: 5}, {Name: "b", Value: 6}}
	x := two(api.EAdd, api.Expr{Kind: api.ENum, N: 3, Name: "b"}, api.Expr{Kind: api.EName, Name: "a", N: 9})
	x.N, x.Name = 7, "b"
	y := api.Expr{Kind: api.ENeg, N: 8, Name: "b", L: []api.Expr{{Kind: api.EHere, N: 4, Name: "b"}}}
	x = two(api.EAdd, x, y)
	n, e := expr.Eval(x, 100, syms)
	if s, l := expr.Text(x), expr.Names(x); s != "(3 + a) + -." || !slices.Equal(l, []string{"a"}) || n != -92 || e != api.OK {
		t.Errorf("P301, P302: %q %v %d %v", s, l, n, e)
	}
}

// Limits: 1000 deep, on each side.
func TestThousandDeep(t *testing.T) {
	left, right, minus := name("a"), name("a"), name("a")
	for range 999 {
		left, right, minus = two(api.EAdd, left, num(1)), two(api.EAdd, num(1), right), neg(minus)
	}
	syms := []api.Sym{{Name: "a", Value: 7}}
	for _, c := range []struct {
		x    api.Expr
		text string
		n    int
	}{
		{left, strings.Repeat("(", 998) + "a + 1" + strings.Repeat(") + 1", 998), 1006},
		{right, strings.Repeat("1 + (", 998) + "1 + a" + strings.Repeat(")", 998), 1006},
		{minus, strings.Repeat("-", 999) + "a", -7},
	} {
		n, e := expr.Eval(c.x, 0, syms)
		if s, l := expr.Text(c.x), expr.Names(c.x); s != c.text || !slices.Equal(l, []string{"a"}) || n != c.n || e != api.OK {
			t.Errorf("P301, P302: 1000 deep: %d %v %v, %d bytes", n, e, l, len(s))
		}
	}
}

// widened has spare room behind each of its lists, which is filled.
func widened(x api.Expr) api.Expr {
	l := make([]api.Expr, 0, len(x.L)+2)
	for _, y := range x.L {
		l = append(l, widened(y))
	}
	for i := range l[len(l):cap(l)] {
		l[len(l):cap(l)][i] = name("spare")
	}
	x.L = l
	return x
}

// lists shows x with the spare room of its lists.
func lists(x api.Expr) string {
	s := drawn(api.Expr{Kind: x.Kind, N: x.N, Name: x.Name})
	for i, y := range x.L[:cap(x.L)] {
		if i < len(x.L) {
			s += " [" + lists(y) + "]"
		} else {
			s += " {" + drawn(y) + "}"
		}
	}
	return s
}

// P2: what is handed in, its spare room too, is not changed; an empty list of children is as none.
func TestUnchanged(t *testing.T) {
	d := rand.New(rand.NewSource(3))
	for range 2000 {
		plain := some(d, 6)
		x := widened(plain)
		was := lists(x)
		room := []api.Sym{{Name: "a", Value: 1}, {Name: "b", Value: 2}, {Name: "low", Value: 3}, {Name: "high", Value: 4}}
		syms := room[:2]
		n, e := expr.Eval(x, 5, syms)
		m, f := expr.Eval(plain, 5, syms)
		if expr.Text(x) != expr.Text(plain) || !slices.Equal(expr.Names(x), expr.Names(plain)) || n != m || e != f {
			t.Fatalf("P2: %s with spare room", expr.Text(plain))
		}
		if lists(x) != was || !slices.Equal(room, []api.Sym{{Name: "a", Value: 1}, {Name: "b", Value: 2}, {Name: "low", Value: 3}, {Name: "high", Value: 4}}) {
			t.Fatalf("P2: %s is changed", was)
		}
	}
}

// spoil writes over all that an answer has, and behind it.
func spoil(x *api.Expr) {
	for i := range x.L {
		spoil(&x.L[i])
	}
	l := x.L[:cap(x.L)]
	for i := range l {
		l[i] = name("spoilt")
	}
}

// P2: answers are new memory, and no two lists of one share any.
func TestNewMemory(t *testing.T) {
	const s = "a + b * -(c - a) << 2 | . & -.  - (1 + a)"
	x, y := mustRead(t, s), mustRead(t, s)
	was := drawn(y)
	spoil(&x)
	if drawn(y) != was || read(s) != was {
		t.Errorf("P2: one answer is changed by another")
	}
	seen := map[*api.Expr]bool{}
	var walk func(x api.Expr)
	walk = func(x api.Expr) {
		l := x.L[:cap(x.L)]
		for i := range l {
			if seen[&l[i]] {
				t.Errorf("P2: two lists of one answer share memory")
			}
			seen[&l[i]] = true
		}
		for _, child := range x.L {
			walk(child)
		}
	}
	walk(y)

	l := expr.Names(y)
	for i := range l[:cap(l)] {
		l[:cap(l)][i] = "spoilt"
	}
	if got := expr.Names(y); !slices.Equal(got, []string{"a", "b", "c"}) || drawn(y) != was {
		t.Errorf("P2: %v", got)
	}
}

// P2: no answer keeps a text that was handed in.
func TestTextNotKept(t *testing.T) {
	s := strings.Clone("twelve_bytes")
	x := mustRead(t, s)
	for _, answer := range []string{x.Name, expr.Text(name(s)), expr.Names(name(s))[0]} {
		if answer != s || unsafe.StringData(answer) == unsafe.StringData(s) {
			t.Errorf("P2: %q is kept", answer)
		}
	}
}

// Example 1 of the chapter.
func ExampleParse() {
	_, is := expr.Parse("")
	fmt.Println(is)
	x, is := expr.Parse("(end - .) >> 1")
	fmt.Println(x.Kind == api.EShr, is)
	// Output:
	// false
	// true true
}

func ExampleText() {
	x, _ := expr.Parse("0x10+a*-b")
	fmt.Println(expr.Text(x))
	// Output: 16 + (a * -b)
}

func ExampleNames() {
	x, _ := expr.Parse("b + a - b")
	fmt.Println(expr.Names(x))
	// Output: [b a]
}

func ExampleEval() {
	x, _ := expr.Parse("(end - .) >> 1")
	fmt.Println(expr.Eval(x, 100, []api.Sym{{Name: "end", Value: 120}}))
	fmt.Println(expr.Eval(x, 100, nil))
	// Output:
	// 10 ok
	// 0 name
}
