package line_test

import (
	"fmt"
	"math"
	"math/rand"
	"slices"
	"strconv"
	"strings"
	"testing"
	"unsafe"

	"letterpress/api"
	"letterpress/expr"
	"letterpress/line"
)

// mustBe holds One against a statement.
func mustBe(t *testing.T, s string, want api.Stmt) {
	t.Helper()
	if got := shown(line.One(s)); got != shown(want, true) {
		t.Errorf("P401: %q: %s, not %s", s, got, shown(want, true))
	}
}

func mustNotBe(t *testing.T, s string) {
	t.Helper()
	if got := shown(line.One(s)); got != "none" {
		t.Errorf("P401, P4: %q: %s", s, got)
	}
}

func mustRead(t *testing.T, s string) api.Stmt {
	t.Helper()
	x, is := line.One(s)
	if !is {
		t.Fatalf("P401: %q is not read", s)
	}
	return x
}

// P401, W2: words and their edges.
func TestWord(t *testing.T) {
	for _, s := range []string{"a", "z", "_", "r", "r_", "ra", "r1a", "r1_", "rr1", "_r1", "q1", "s1", "a0", "z9", "__", "x_9", "b", "bl", "bc", "add", "se_blr", "twelve_bytes", "____________", "a01234567890", "r0123456789a", "rrrrrrrrrrrr"} {
		if !line.Word(s) {
			t.Errorf("P401: %q is none", s)
		}
	}
	for _, s := range []string{"", "0", "9a", "A", "aB", "Ra", "r0", "r1", "r9", "r00", "r31", "r32", "r99", "r01234567890", "r012345678901", "thirteen_byte", "_____________", "aaaaaaaaaaaaa", strings.Repeat("a", 1<<20), " a", "a ", "a\t", "\ta", "a\n", "a b", "(a)", "-a", ".", ".a", "a.", "a-b", "a:", "a#", "é", "aé", "a\xff", "\xff", "a\x00", "ａ", "a١"} {
		if line.Word(s) {
			t.Errorf("P401: %q is one", s)
		}
	}
}

// P401, W2: each byte at each place, and each text of a few.
func TestWordBytes(t *testing.T) {
	for c := range 256 {
		b := string([]byte{byte(c)})
		for _, s := range []string{b, b + "a", "a" + b, "r" + b, "r" + b + "1", "r1" + b, "a" + b + "a", "elevenbytes" + b, "twelve_bytes" + b, b + "elevenbytes"} {
			if line.Word(s) != isWord(s) {
				t.Errorf("P401: %q: %v", s, line.Word(s))
			}
		}
	}
	texts := []string{""}
	for from := 0; len(texts) < 30000; {
		to := len(texts)
		for _, s := range texts[from:to] {
			for _, c := range "rqa_019A-" {
				texts = append(texts, s+string(c))
			}
		}
		from = to
	}
	for _, s := range texts {
		if line.Word(s) != isWord(s) {
			t.Errorf("P401: %q: %v", s, line.Word(s))
		}
	}
}

// given are operands for a row of the table: as they are written, and as they are told.
func given(y entry) (texts []string, x api.Stmt) {
	x.Kind, x.Op = y.kind, y.op
	for i, c := range y.operands {
		switch c {
		case 'R':
			n := []int{0, 31, 10}[i]
			texts = append(texts, "r"+strconv.Itoa(n))
			x.Args = append(x.Args, reg(n))
		case 'Q':
			texts = append(texts, `"a, b: # c "`)
			x.Text = "a, b: # c "
		case 'W':
			texts = append(texts, "r1a")
			x.Text = "r1a"
		case 'L':
			texts = append(texts, "1", "end", ".")
			x.Args = append(x.Args, of(num(1)), of(name("end")), of(here))
		default:
			texts = append(texts, "0x10*-(a - .)")
			x.Args = append(x.Args, of(two(api.EMul, num(16), neg(two(api.ESub, name("a"), here)))))
		}
	}
	return texts, x
}

// P401: each row of the table, with and without a label and a remark, with blanks and tabs wherever they may be.
func TestEachRow(t *testing.T) {
	if len(table) != 76 {
		t.Fatalf("%d rows", len(table))
	}
	gaps := []string{"", " ", "\t", " \t ", "\t \t"}
	for _, y := range table {
		texts, want := given(y)
		want.Line = 1
		for _, label := range []string{"", "lab", "se_blr", "twelve_bytes", "r", "b"} {
			want.Label = label
			head := label
			if label != "" {
				head += ":"
			}
			for i, g := range gaps {
				for j, h := range gaps {
					for _, remark := range []string{"", "#", "# x", `#"`, "##", "#\xff\x00\r\t: se_blr, \"", "# " + strings.Repeat("x", 1000)} {
						part := gaps[1+(i+j)%4]
						s := g + head + h + y.name
						if len(texts) > 0 {
							s += part + strings.Join(texts, g+","+h)
						}
						mustBe(t, s+g+remark, want)
						mustBe(t, s+h+remark, want)
					}
				}
			}
		}
	}
}

// P401: of each row, so many operands as may be; neither fewer nor more.
func TestHowMany(t *testing.T) {
	for _, y := range table {
		for n := range 19 {
			var l []string
			for i := range n {
				c := y.operands
				if i < len(c) {
					c = c[i:]
				}
				switch {
				case strings.HasPrefix(c, "R"):
					l = append(l, "r3")
				case strings.HasPrefix(c, "Q"):
					l = append(l, `"a"`)
				default:
					l = append(l, "a")
				}
			}
			may := n == len(y.operands)
			if y.operands == "L" {
				may = n >= 1 && n <= 16
			}
			s := y.name + " " + strings.Join(l, ", ")
			x, is := line.One(s)
			if is != may {
				t.Errorf("P401: %q: %v", s, is)
			}
			if is && y.operands == "L" && len(x.Args) != n {
				t.Errorf("P401: %q: %d operands", s, len(x.Args))
			}
			for _, wrong := range []string{s + ",", y.name + " ," + strings.Join(l, ","), s + " ,\t", s + ",,", s + ", # x"} {
				mustNotBe(t, wrong)
			}
			if n > 1 {
				mustNotBe(t, y.name+" "+strings.Join(l, " "))
				mustNotBe(t, y.name+" "+strings.Join(l, ",,"))
				mustNotBe(t, y.name+" "+strings.Join(l, ";"))
			}
			if n > 0 {
				mustNotBe(t, y.name+strings.Join(l, ", "))
				mustNotBe(t, y.name+","+strings.Join(l, ", "))
			}
		}
	}
}

// P401: operands of one kind where the other one is asked for.
func TestOtherKind(t *testing.T) {
	for _, y := range table {
		texts, _ := given(y)
		for i := range texts {
			c := 'E'
			if i < len(y.operands) && y.operands != "L" {
				c = rune(y.operands[i])
			}
			wrong := map[rune][]string{
				'R': {"", "3", "a", ".", "-r3", "(r3)", "r3 + 1", `"r3"`, "r", "r3a"},
				'E': {"", "r3", "r0", "r31", "r32", "r01", "1 + r3", "(r3)", "-r0", `"a"`, "1 2", "a b", "A", "()", "1 +", "'a'", "0x", "4294967296", "thirteen_byte", "@", "a:"},
				'W': {"", "r3", "r99", "1", ".", "(a)", "-a", "a + b", `"a"`, "A", "thirteen_byte", "a b", "a:", "é"},
				'Q': {"", "a", "1", "r3", "a b", "'a'", "“a”"},
			}[c]
			for _, w := range wrong {
				l := slices.Clone(texts)
				l[i] = w
				mustNotBe(t, y.name+" "+strings.Join(l, ", "))
				mustNotBe(t, "a: "+y.name+"\t"+strings.Join(l, ",")+" # x")
			}
		}
	}
}

// P401: registers and their edges, at each place where one may stand.
func TestRegisters(t *testing.T) {
	for n := range 32 {
		r := "r" + strconv.Itoa(n)
		mustBe(t, "se_not "+r, api.Stmt{Line: 1, Kind: api.SInst, Op: 5, Args: []api.Arg{reg(n)}})
		mustBe(t, "se_mr r1, "+r, api.Stmt{Line: 1, Kind: api.SInst, Op: 15, Args: []api.Arg{reg(1), reg(n)}})
		mustBe(t, "add "+r+",r1,r2", api.Stmt{Line: 1, Kind: api.SInst, Op: 60, Args: []api.Arg{reg(n), reg(1), reg(2)}})
		mustBe(t, "add r1,"+r+",r2", api.Stmt{Line: 1, Kind: api.SInst, Op: 60, Args: []api.Arg{reg(1), reg(n), reg(2)}})
		mustBe(t, "add r1,r2,"+r, api.Stmt{Line: 1, Kind: api.SInst, Op: 60, Args: []api.Arg{reg(1), reg(2), reg(n)}})
	}
	for _, r := range []string{"r32", "r33", "r40", "r99", "r100", "r256", "r01", "r00", "r000", "r09", "r031", "r", "R1", "r-1", "r-0", "r+1", "r1a", "r1_", "r1.", "r0x1", "r 1", "r1 r2", "r_1", "r1_0", "rr1", "1", "x1", "a", "sp", "r4294967297", "r18446744073709551617", "r" + strings.Repeat("0", 1000) + "1", "r" + strings.Repeat("9", 1000), "r١", "r１", "r1\xff", "r1\x00", "r1\r", "%r1", "(r1)", "r1e0"} {
		for _, s := range []string{"se_not " + r, "se_mr " + r + ", r1", "se_mr r1, " + r, "add " + r + ", r1, r1", "add r1, " + r + ", r1", "add r1, r1, " + r, "e_lwz r1, 0, " + r} {
			mustNotBe(t, s)
		}
	}
}

// P401: expressions are those of chapter 3, with tabs around but not within, and no deeper than may be.
func TestNumbers(t *testing.T) {
	for s, want := range map[string]api.Expr{
		"0": num(0), "0xff": num(255), "4294967295": num(1<<32 - 1), ".": here, "r": name("r"), "r1a": name("r1a"), "twelve_bytes": name("twelve_bytes"),
		"1+2*3": two(api.EAdd, num(1), two(api.EMul, num(2), num(3))), "( 1 + 2 ) * 3": two(api.EMul, two(api.EAdd, num(1), num(2)), num(3)),
		"- -1": neg(neg(num(1))), ". - a": two(api.ESub, here, name("a")), "a<<1|b>>2&3": two(api.EOr, two(api.EShl, name("a"), num(1)), two(api.EAnd, two(api.EShr, name("b"), num(2)), num(3))),
		strings.Repeat("(", 12) + "1" + strings.Repeat(")", 12): num(1),
	} {
		for _, g := range []string{"", " ", "\t", "\t \t"} {
			mustBe(t, ".align "+g+s+g, api.Stmt{Line: 1, Kind: api.SAlign, Args: []api.Arg{of(want)}})
			mustBe(t, "b "+g+s+g+"#", api.Stmt{Line: 1, Kind: api.SGrow, Args: []api.Arg{of(want)}})
			mustBe(t, ".long 1,"+g+s+g+",2", api.Stmt{Line: 1, Kind: api.SLong, Args: []api.Arg{of(num(1)), of(want), of(num(2))}})
			mustBe(t, ".equ a,"+g+s+g, api.Stmt{Line: 1, Kind: api.SEqu, Text: "a", Args: []api.Arg{of(want)}})
		}
	}
	for _, s := range []string{"1\t+ 2", "1 +\t2", "(\t1)", "(1\t)", "-\t1", "1\r", "1\v", "1\f", "1\u00a0", "1\x00", "1 + ", "+ 1", "1 ~ 2", "a = 1", "1(2)",
		strings.Repeat("(", 13) + "1" + strings.Repeat(")", 13), strings.Repeat("-", 13) + "1", strings.Repeat("-(", 6) + "-1" + strings.Repeat(")", 6), strings.Repeat("(", 1<<16), strings.Repeat("-", 1<<16) + "1"} {
		for _, head := range []string{"b ", ".byte ", ".byte 1, ", ".equ a, ", ".space ", "bc 1, 2, ", "e_li r1, ", "e_b "} {
			mustNotBe(t, head+s)
			mustNotBe(t, head+s+" # x")
		}
	}
	mustBe(t, ".space "+strings.Repeat("-", 12)+"1", api.Stmt{Line: 1, Kind: api.SSpace, Args: mustRead(t, ".byte "+strings.Repeat("-", 12)+"1").Args})
}

// P401: what stands between quotes, at its edges.
func TestQuoted(t *testing.T) {
	quoted := func(s string) api.Stmt { return api.Stmt{Line: 1, Kind: api.SAscii, Text: s} }
	for c := range 256 {
		b := string([]byte{byte(c)})
		for _, s := range []string{b, "a" + b, b + "a", "a" + b + "b"} {
			if c >= 32 && c <= 126 && c != '"' {
				mustBe(t, `.ascii "`+s+`"`, quoted(s))
			} else {
				mustNotBe(t, `.ascii "`+s+`"`)
			}
		}
	}
	for n := range 130 {
		s := strings.Repeat("#", n)
		if n <= 60 {
			mustBe(t, `.ascii "`+s+`"`, quoted(s))
		} else {
			mustNotBe(t, `.ascii "`+s+`"`)
		}
	}
	for _, s := range []string{"", " ", "  a  ", "#", "# x", ",", "a, b", ":", "a:", "a: b", `\`, `\n`, "'", "r1", ".ascii", "~}|{", strings.Repeat(" ", 60)} {
		for _, g := range []string{"", " ", "\t", " \t"} {
			mustBe(t, ".ascii\t"+g+`"`+s+`"`+g, quoted(s))
			mustBe(t, g+".ascii "+g+`"`+s+`"`+g+`# "x`, quoted(s))
			mustBe(t, g+".ascii "+g+`"`+s+`"`+g+`#"`, quoted(s))
			mustBe(t, g+".ascii "+g+`"`+s+`"`+g+`# "x" # "`, quoted(s))
		}
	}
	for _, s := range []string{`"`, `"a`, `a"`, `"a" "`, `"a"b"`, `"a""`, `""a"`, `"""`, `""""`, `"a" "b"`, `"a", "b"`, `"a",`, `,"a"`, `"a" b`, `"a"b`, `b"a"`, `b "a"`, `"a" ""`, `"a"""`, `'a'`, `"a'`, `"a # b`, `"a" , # b`, `"a#`, `"é"`, `"` + "\t" + `"`, `("a")`, `"a" + 1`, `"a":`, `"\""`} {
		mustNotBe(t, ".ascii "+s)
		mustNotBe(t, ".ascii "+s+" ")
		mustNotBe(t, "a: .ascii "+s)
	}
	for _, s := range []string{`.ascii"a"`, `.ascii"a" `, `.ascii`, `.ascii `, `.ascii #"a"`, `.ascii# "a"`, `"a"`, `# "` + "\n" + `"`, `.byte "a"`, `.byte "#"`, `.byte 1, "#" # x`, `b "a"`, `.equ "a", 1`, `.equ a, "1"`, `se_blr "#"`, `"#": se_blr`, `a "#" : se_blr`} {
		mustNotBe(t, s)
	}
}

// P401: labels, alone and ahead of a statement.
func TestLabels(t *testing.T) {
	for _, l := range []string{"a", "_", "r", "r1a", "b", "bc", "add", "se_blr", "twelve_bytes", "e_li", "byte"} {
		for _, g := range []string{"", " ", "\t", " \t "} {
			mustBe(t, g+l+":", api.Stmt{Line: 1, Label: l})
			mustBe(t, g+l+":"+g+"#", api.Stmt{Line: 1, Label: l})
			mustBe(t, l+":"+g+"# b: se_blr", api.Stmt{Line: 1, Label: l})
			mustBe(t, g+l+":"+g+"se_blr"+g, api.Stmt{Line: 1, Label: l, Kind: api.SInst, Op: 3})
			mustBe(t, l+":"+g+`.ascii "a:b"`, api.Stmt{Line: 1, Label: l, Kind: api.SAscii, Text: "a:b"})
		}
		for _, s := range []string{l + " :", l + "\t:", l + " : se_blr", l + "::", l + ": :", l + ":a:", l + ": a:", l + ": a: se_blr", l + "\n:", l + ":\n", "(" + l + "):", "-" + l + ":", l + ",a:", l + " a:", "." + l + ":", l + ".", l + ";"} {
			mustNotBe(t, s)
		}
	}
	for _, l := range []string{"", " ", "r0", "r1", "r00", "r31", "r32", "r999", "1", "0x1", "A", "Ab", "aB", "thirteen_byte", ".", ".byte", "a.b", "a-b", "a+b", "é", "\xff", "a\x00", `"a"`, "a b", "a\tb"} {
		mustNotBe(t, l+":")
		mustNotBe(t, l+": se_blr")
		mustNotBe(t, "\t"+l+":se_blr # x")
	}
}

// P401: a line without a label and a statement is one, and tells nothing.
func TestNothing(t *testing.T) {
	for _, s := range []string{"", " ", "\t", " \t \t", "#", " #", "\t# x", "##", `#"`, `# "#"`, "# a: se_blr", "#\x00\xff\r", "# é", strings.Repeat(" ", 1<<16), strings.Repeat("#", 1<<16)} {
		if x, is := line.One(s); !is || drawn(x) != drawn(api.Stmt{}) {
			t.Errorf("P401: %q: %s", s, shown(x, is))
		}
		if l, bad := line.Parse(s); len(l)+len(bad) != 0 {
			t.Errorf("P402: %q: %v %v", s, l, bad)
		}
	}
}

// P401: what is no line.
func TestNone(t *testing.T) {
	for _, s := range []string{
		"a", "a b", "x y z", "1", ".", ",", ":", "(", `"`, "-", "\x00", "\xff", "\r", "\v", "\f", "\u00a0", "é",
		"SE_BLR", "Se_blr", "se_blr.", "se_blr:se_blr:", "se_blr se_blr", "se_blr\rse_blr", "se_blr\r", "\rse_blr", "\ufeffse_blr", "se_blr\x00", "se_blr;", "se_blr,", "se_blr ,", "se_blr 1", "se_blr r1", "se_blr ()", `se_blr ""`,
		"se_bl", "se_", "se", "e_", "blr", "nop", "se_nop", "se_add16i r1, r2, 3", "sub r1, r2, r3", "mr r1, r2", "bcl 1, 2, a", "b_ a", "bb a", "e_blr",
		"byte 1", ".Byte 1", ".BYTE 1", ".bytes 1", ".byt 1", ". byte 1", ".byte1", ".byte(1)", ".byte-1", ".byte.", ".byte,1", ".org 5", ".word 1", ".text", "..byte 1", ".", ".e", ".equal a, 1", ".equ", ".equ a", ".equ a 1", ".equ a = 1", ".equ a, 1, 2", "a = 1", "x := 5", ".set a, 1",
		"b", "b ", "b#a", "b,", "b(a)", "b-4", "b.", "b 1, 2", "b a b", "bl", "bl\t", "bc 1, 2", "bc 1, 2, 3, 4", "bc", "bc 1 2 3", ".align", ".align 1, 2", ".space", ".space ,",
		"e_lwz r1, 4(r2)", "e_lwz r1, r2, 4", "e_lwz 1, 4, 2", "se_li 3, r4", "// se_blr", "; se_blr", "se_blr // x", "se_blr ; x", "/* x */",
	} {
		mustNotBe(t, s)
		if s != "a" && s != "se_blr:se_blr:" {
			mustNotBe(t, "lab: "+s)
		}
	}
}

// P401: a line has no line feed, wherever it would stand.
func TestLineFeed(t *testing.T) {
	for _, s := range []string{"", "a:", "se_blr", " a: se_blr ", "# x", "se_blr # x", `.ascii "ab"`, ".byte 1, 2"} {
		mustBe(t, s, mustRead(t, s))
		for i := range len(s) + 1 {
			mustNotBe(t, s[:i]+"\n"+s[i:])
		}
	}
}

var pieces = []string{" ", "\t", ":", "#", `"`, ",", "a", "r1", "1", "se_blr", "se_not", "b", ".byte", ".ascii", ".equ", "\n"}

// P401, P1: all texts of up to five pieces, held against the chapter's second writing.
func TestAllTexts(t *testing.T) {
	texts := []string{""}
	from := 0
	for range 5 {
		to := len(texts)
		for _, s := range texts[from:to] {
			for _, p := range pieces {
				texts = append(texts, s+p)
			}
		}
		from = to
	}
	lines := 0
	for _, s := range texts {
		got, want := shown(line.One(s)), shown(oneBy(s, 1))
		if got != want {
			t.Fatalf("P401: %q: %s, not %s", s, got, want)
		}
		if got != "none" {
			lines++
		}
	}
	if len(texts) != 1118481 || lines < 10000 {
		t.Errorf("%d texts, %d lines", len(texts), lines)
	}
}

// strewn is a line that One tells, written with other gaps, and in which perhaps a few pieces are others.
func strewn(d *rand.Rand) string {
	gap := func() string { return pick(d, "", "", " ", "\t", " \t ") }
	var b strings.Builder
	b.WriteString(gap())
	quotes := false
	for _, c := range line.Text(someStmt(d)) {
		if c == '"' {
			quotes = !quotes
		}
		switch {
		case c == ',' && !quotes:
			b.WriteString(gap() + "," + gap())
		case c == ' ' && !quotes:
			b.WriteString(pick(d, " ", "  "))
		default:
			b.WriteRune(c)
		}
	}
	s := b.String() + gap() + pick(d, "", "", "#", "# x", `# "`)
	for range pick(d, 0, 0, 1, 2) {
		i := d.Intn(len(s) + 1)
		s = s[:i] + pick(d, "", "", pick(d, pieces...)) + s[min(len(s), i+d.Intn(3)):]
	}
	return s
}

// P401, P1: many longer ones.
func TestManyLines(t *testing.T) {
	d := rand.New(rand.NewSource(1))
	lines := 0
	for range 100000 {
		s := strewn(d)
		got, want := shown(line.One(s)), shown(oneBy(s, 1))
		if got != want {
			t.Fatalf("P401: %q: %s, not %s", s, got, want)
		}
		if got != "none" {
			lines++
		}
	}
	if lines < 40000 || lines > 90000 {
		t.Errorf("%d lines", lines)
	}
}

// P1, P4: whatever bytes come.
func TestAnyText(t *testing.T) {
	d := rand.New(rand.NewSource(2))
	for range 100000 {
		b := make([]byte, d.Intn(30))
		for i := range b {
			b[i] = byte(d.Intn(256))
			if d.Intn(4) > 0 {
				b[i] = " \t:#\",.abr01_\n"[d.Intn(14)]
			}
		}
		s := string(b)
		if got, want := shown(line.One(s)), shown(oneBy(s, 1)); got != want {
			t.Fatalf("P401: %q: %s, not %s", s, got, want)
		}
		if got, want := listed(line.Parse(s)), listed(parseBy(s)); got != want {
			t.Fatalf("P402: %q: %s, not %s", s, got, want)
		}
	}
}

func FuzzOne(f *testing.F) {
	for _, s := range []string{"", "a: se_mr r3,\tr24 # x", `.ascii "a#,:" # "`, "bc 0, 1, x - (2 << 3)", ".equ x, 5\n.byte 1,2", "r1: r01"} {
		f.Add(s)
	}
	f.Fuzz(func(t *testing.T, s string) {
		if got, want := shown(line.One(s)), shown(oneBy(s, 1)); got != want {
			t.Fatalf("P401: %q: %s, not %s", s, got, want)
		}
		if got, want := listed(line.Parse(s)), listed(parseBy(s)); got != want {
			t.Fatalf("P402: %q: %s, not %s", s, got, want)
		}
	})
}

// listed shows an answer of Parse.
func listed(l []api.Stmt, bad []int) string {
	var s string
	for _, x := range l {
		s += drawn(x) + "\n"
	}
	return s + fmt.Sprint(bad)
}

// parseBy is what P402 says of Parse.
func parseBy(s string) (l []api.Stmt, bad []int) {
	for i, text := range strings.Split(s, "\n") {
		x, is := oneBy(text, i+1)
		if !is {
			bad = append(bad, i+1)
		} else if x.Label != "" || x.Kind != 0 {
			l = append(l, x)
		}
	}
	return l, bad
}

// P402: lines by their numbers.
func TestParse(t *testing.T) {
	blr := func(n int) api.Stmt { return api.Stmt{Line: n, Kind: api.SInst, Op: 3} }
	lab := func(n int) api.Stmt { return api.Stmt{Line: n, Label: "a"} }
	for _, c := range []struct {
		s   string
		l   []api.Stmt
		bad []int
	}{
		{"", nil, nil},
		{"\n", nil, nil},
		{"\n\n\n", nil, nil},
		{"# x", nil, nil},
		{"# x\n# y\n", nil, nil},
		{"se_blr", []api.Stmt{blr(1)}, nil},
		{"se_blr\n", []api.Stmt{blr(1)}, nil},
		{"\nse_blr", []api.Stmt{blr(2)}, nil},
		{"\nse_blr\n", []api.Stmt{blr(2)}, nil},
		{"se_blr\nse_blr", []api.Stmt{blr(1), blr(2)}, nil},
		{"se_blr\n\n# x\n \t\nse_blr\n\n", []api.Stmt{blr(1), blr(5)}, nil},
		{"a:\nse_blr", []api.Stmt{lab(1), blr(2)}, nil},
		{"a:\na:\na:", []api.Stmt{lab(1), lab(2), lab(3)}, nil},
		{"x", nil, []int{1}},
		{"x\n", nil, []int{1}},
		{"\nx", nil, []int{2}},
		{"x\ny\n\nz", nil, []int{1, 2, 4}},
		{"se_blr\nx\na:\ny\n# x\nse_blr\n", []api.Stmt{blr(1), lab(3), blr(6)}, []int{2, 4}},
		{"se_blr\r\nse_blr", []api.Stmt{blr(2)}, []int{1}},
		{"se_blr\rse_blr\n", nil, []int{1}},
		{"se_blr # x\nse_blr # y", []api.Stmt{blr(1), blr(2)}, nil},
		{"# \"\nse_blr # \"", []api.Stmt{blr(2)}, nil},
		{".ascii \"a\nb\"\n", nil, []int{1, 2}},
		{".byte 1,\n2\na:\n", []api.Stmt{lab(3)}, []int{1, 2}},
		{"a:\n:", []api.Stmt{lab(1)}, []int{2}},
		{"a\n:", nil, []int{1, 2}},
		{".ascii \"\"\n.ascii \"#\"\n.equ r, r", []api.Stmt{{Line: 1, Kind: api.SAscii}, {Line: 2, Kind: api.SAscii, Text: "#"}, {Line: 3, Kind: api.SEqu, Text: "r", Args: []api.Arg{of(name("r"))}}}, nil},
	} {
		if got, want := listed(line.Parse(c.s)), listed(c.l, c.bad); got != want {
			t.Errorf("P402: %q: %s, not %s", c.s, got, want)
		}
	}
}

// P402: many sources, held against the chapter's second writing.
func TestManySources(t *testing.T) {
	d := rand.New(rand.NewSource(3))
	for range 5000 {
		var l []string
		for range d.Intn(12) {
			l = append(l, pick(d, strewn(d), strewn(d), "", " ", "# x", "x y"))
		}
		s := strings.Join(l, "\n") + pick(d, "", "\n", "\n\n")
		if got, want := listed(line.Parse(s)), listed(parseBy(s)); got != want {
			t.Fatalf("P402: %q: %s, not %s", s, got, want)
		}
	}
}

// P402: Text of each row, with and without a label.
func TestText(t *testing.T) {
	for _, y := range table {
		texts, x := given(y)
		for i, s := range texts {
			texts[i] = strings.ReplaceAll(s, "0x10*-(a - .)", "16 * -(a - .)")
		}
		want := y.name
		if len(texts) > 0 {
			want += " " + strings.Join(texts, ", ")
		}
		x.Line = 77
		if got := line.Text(x); got != want {
			t.Errorf("P402: %q, not %q", got, want)
		}
		x.Label = "twelve_bytes"
		if got := line.Text(x); got != "twelve_bytes: "+want {
			t.Errorf("P402: %q, not %q", got, "twelve_bytes: "+want)
		}
	}
	for want, x := range map[string]api.Stmt{
		"":                      {},
		"a:":                    {Line: 1, Label: "a"},
		"add: add r0, r31, r9":  {Line: 1, Label: "add", Kind: api.SInst, Op: 60, Args: []api.Arg{reg(0), reg(31), reg(9)}},
		"se_illegal":            {Line: 1, Kind: api.SInst},
		"se_lwz r24, 4, r0":     {Line: 1, Kind: api.SInst, Op: 38, Args: []api.Arg{reg(24), of(num(4)), reg(0)}},
		"b -4":                  {Line: 1, Kind: api.SGrow, Args: []api.Arg{of(neg(num(4)))}},
		"bc 0, 1, . + 2":        {Line: 1, Kind: api.SGrow, Op: 2, Args: []api.Arg{of(num(0)), of(num(1)), of(two(api.EAdd, here, num(2)))}},
		`.ascii ""`:             {Line: 1, Kind: api.SAscii},
		`x: .ascii " #, "`:      {Line: 1, Label: "x", Kind: api.SAscii, Text: " #, "},
		".byte (1 + 2) * 3, -a": {Line: 1, Kind: api.SByte, Args: []api.Arg{of(two(api.EMul, two(api.EAdd, num(1), num(2)), num(3))), of(neg(name("a")))}},
		"x: .equ y, z":          {Line: 1, Label: "x", Kind: api.SEqu, Text: "y", Args: []api.Arg{of(name("z"))}},
	} {
		if got := line.Text(x); got != want {
			t.Errorf("P402: %q, not %q", got, want)
		}
	}
}

// P403: what was told is read as it was, whatever its line was.
func TestThereAndBack(t *testing.T) {
	d := rand.New(rand.NewSource(4))
	for range 50000 {
		x := someStmt(d)
		s := line.Text(x)
		y, is := line.One(s)
		if !is || drawn(x) != drawn(y) {
			t.Fatalf("P403: %q: %s, not %s", s, shown(y, is), drawn(x))
		}
		x.Line = d.Intn(5000)
		if line.Text(x) != s {
			t.Fatalf("P402: %q in line %d: %q", s, x.Line, line.Text(x))
		}
	}
}

// P403: what was read, told, is read as it was; and a whole source of such lines.
func TestReadAgain(t *testing.T) {
	d := rand.New(rand.NewSource(5))
	for range 3000 {
		var l []string
		for range 10 {
			l = append(l, strewn(d))
		}
		first, _ := line.Parse(strings.Join(l, "\n"))
		var again strings.Builder
		for i := range first {
			again.WriteString(line.Text(first[i]) + "\n")
			first[i].Line = i + 1
		}
		if got, want := listed(line.Parse(again.String())), listed(first, nil); got != want {
			t.Fatalf("P403: %q: %s, not %s", again.String(), got, want)
		}
	}
}

// P403: a row of numbers is told with brackets: as long as these are no deeper than may be, it is read as it was.
func TestBackAtTheEdge(t *testing.T) {
	for _, head := range []string{"b ", "a: .byte 1, ", "bc 0, 1, ", ".equ x, ", "e_li r1, ", ".align "} {
		x := mustRead(t, head+"1"+strings.Repeat("+1", 13))
		s := line.Text(x)
		if want := head + strings.Repeat("(", 12) + "1" + strings.Repeat(" + 1)", 12) + " + 1"; s != want {
			t.Errorf("P402: %q, not %q", s, want)
		}
		mustBe(t, s, x)

		deeper := mustRead(t, head+"1"+strings.Repeat("+1", 14))
		s = line.Text(deeper)
		if want := head + strings.Repeat("(", 13) + "1" + strings.Repeat(" + 1)", 13) + " + 1"; s != want {
			t.Errorf("P402: %q, not %q", s, want)
		}
		mustNotBe(t, s)
	}
}

// P1, P2, P3: whatever a statement is; it is not changed.
func TestAnyStmt(t *testing.T) {
	d := rand.New(rand.NewSource(6))
	for range 8000 {
		x := wild(d)
		was := drawn(x)
		s := line.Text(x)
		if line.Text(x) != s {
			t.Fatalf("P3: %s", was)
		}
		if drawn(x) != was {
			t.Fatalf("P2: %s: %s", was, drawn(x))
		}
		if got, want := listed(line.Parse(s)), listed(parseBy(s)); got != want {
			t.Fatalf("P402: %q: %s, not %s", s, got, want)
		}
	}
	for kind := -3; kind < 15; kind++ {
		for _, op := range []int{math.MinInt, -1, 0, 1, 2, 3, 65, 66, math.MaxInt} {
			for n := range 5 {
				for _, r := range []int{math.MinInt, -2, -1, 0, 31, 32, math.MaxInt} {
					line.Text(api.Stmt{Kind: kind, Op: op, Args: slices.Repeat([]api.Arg{{Reg: r}}, n)})
				}
			}
		}
	}
}

// Limits: expressions that hang on one another 1000 deep.
func TestThousandDeep(t *testing.T) {
	left, right, minus := name("a"), name("a"), name("a")
	for range 999 {
		left, right, minus = two(api.EAdd, left, num(1)), two(api.EAdd, num(1), right), neg(minus)
	}
	x := api.Stmt{Kind: api.SByte, Args: []api.Arg{of(left), of(right), of(minus)}}
	if got, want := line.Text(x), ".byte "+expr.Text(left)+", "+expr.Text(right)+", "+expr.Text(minus); got != want {
		t.Errorf("P402: %d bytes, not %d", len(got), len(want))
	}
}

// P1: pieces, so many of them that what went over them again with each would not end.
func TestLongLine(t *testing.T) {
	const n = 1 << 16
	for _, head := range []string{"", "a:", "b ", ".byte ", ".ascii ", `.ascii "`, ".equ ", "se_blr ", "add r1, ", "#", `# "`} {
		for _, p := range []string{" ", "\t", ":", ",", "#", `"`, `",`, `"#`, "a", "a:", "a ", "a,", "r", "r1,", "1", "1,", "1+", "(", "-", "se_blr ", "b ", ".", "\x00", "\xff", "é"} {
			for _, tail := range []string{"", `"`, "1", "\n"} {
				s := head + strings.Repeat(p, n) + tail
				x, is := line.One(s)
				want, right := oneBy(s, 1)
				if is != right || x.Kind != want.Kind || x.Label != want.Label || x.Text != want.Text || len(x.Args) != len(want.Args) {
					t.Errorf("P401: %q and many %q, then %q: %v %d %d", head, p, tail, is, x.Kind, len(x.Args))
				}
			}
		}
	}
}

// P1, P402: many lines.
func TestLongSource(t *testing.T) {
	const n = 1 << 17
	for p, want := range map[string][2]int{"\n": {0, 0}, "a:\n": {n, 0}, "x\n": {0, n}, "#\n": {0, 0}, "se_blr # x\n": {n, 0}, "a:\n:\n\n": {n, n}} {
		l, bad := line.Parse(strings.Repeat(p, n))
		if len(l) != want[0] || len(bad) != want[1] {
			t.Errorf("P402: many %q: %d, %d bad", p, len(l), len(bad))
		}
		if each := strings.Count(p, "\n"); len(l) > 0 && l[n-1].Line != (n-1)*each+1 {
			t.Errorf("P402: many %q: the last one in line %d", p, l[n-1].Line)
		}
	}
}

// widened has spare room behind each of its lists, which is filled.
func widened(x api.Stmt) api.Stmt {
	l := make([]api.Arg, 0, len(x.Args)+2)
	for _, a := range x.Args {
		l = append(l, api.Arg{Reg: a.Reg, E: widenedExpr(a.E)})
	}
	for i := range l[len(l):cap(l)] {
		l[len(l):cap(l)][i] = of(name("spare"))
	}
	x.Args = l
	return x
}

func widenedExpr(x api.Expr) api.Expr {
	l := make([]api.Expr, 0, len(x.L)+2)
	for _, y := range x.L {
		l = append(l, widenedExpr(y))
	}
	for i := range l[len(l):cap(l)] {
		l[len(l):cap(l)][i] = name("spare")
	}
	x.L = l
	return x
}

// withSpare shows x with the spare room of its lists.
func withSpare(x api.Stmt) string {
	s := drawn(x)
	var walk func(y api.Expr)
	walk = func(y api.Expr) {
		s += " {" + drawnExpr(y)
		for _, z := range y.L[:cap(y.L)] {
			walk(z)
		}
		s += "}"
	}
	for _, a := range x.Args[:cap(x.Args)] {
		s += " " + strconv.Itoa(a.Reg)
		walk(a.E)
	}
	return s
}

// P2: what is handed in, its spare room too, is not changed; an empty list is as none.
func TestUnchanged(t *testing.T) {
	d := rand.New(rand.NewSource(7))
	for range 2000 {
		plain := someStmt(d)
		x := widened(plain)
		was := withSpare(x)
		if line.Text(x) != line.Text(plain) {
			t.Fatalf("P2: %s with spare room", was)
		}
		if withSpare(x) != was {
			t.Fatalf("P2: %s: %s", was, withSpare(x))
		}
	}
}

const source = "lab: .byte a + b * -(c - a), . & -., (1 + a), 4, 5\n.equ twelve_bytes, lab << 2\nx y\n\nadd r1, r2, r3\n.ascii \"some text\"\nq:\nw z\nbc 1, 2, lab - (a | b)\n"

// spoil writes over all that an answer of Parse has, and behind it.
func spoil(l []api.Stmt, bad []int) {
	var over func(l []api.Expr)
	over = func(l []api.Expr) {
		for i := range l {
			over(l[i].L)
		}
		for i := range l[:cap(l)] {
			l[:cap(l)][i] = name("spoilt")
		}
	}
	for _, x := range l {
		for _, a := range x.Args {
			over(a.E.L)
		}
		for i := range x.Args[:cap(x.Args)] {
			x.Args[:cap(x.Args)][i] = reg(99)
		}
	}
	for i := range l[:cap(l)] {
		l[:cap(l)][i] = api.Stmt{Label: "spoilt"}
	}
	for i := range bad[:cap(bad)] {
		bad[:cap(bad)][i] = -1
	}
}

// P2: answers are new memory, and no two lists of one share any.
func TestNewMemory(t *testing.T) {
	was := listed(parseBy(source))
	l, bad := line.Parse(source)
	m, worse := line.Parse(source)
	spoil(l, bad)
	if listed(m, worse) != was || listed(line.Parse(source)) != was {
		t.Errorf("P2: one answer is changed by another")
	}

	args, exprs := map[*api.Arg]bool{}, map[*api.Expr]bool{}
	var walk func(l []api.Expr)
	walk = func(l []api.Expr) {
		for i := range l[:cap(l)] {
			at := &l[:cap(l)][i]
			if exprs[at] {
				t.Errorf("P2: two lists of one answer share memory")
			}
			exprs[at] = true
			if i < len(l) {
				walk(l[i].L)
			}
		}
	}
	for _, x := range m {
		for i := range x.Args[:cap(x.Args)] {
			at := &x.Args[:cap(x.Args)][i]
			if args[at] {
				t.Errorf("P2: two lists of one answer share memory")
			}
			args[at] = true
			walk(at.E.L)
		}
	}
	if len(args) < 13 || len(exprs) < 10 {
		t.Errorf("%d operands, %d expressions", len(args), len(exprs))
	}
}

// within: whether two texts share memory.
func within(a, b string) bool {
	if a == "" || b == "" {
		return false
	}
	p, q := uintptr(unsafe.Pointer(unsafe.StringData(a))), uintptr(unsafe.Pointer(unsafe.StringData(b)))
	return p < q+uintptr(len(b)) && q < p+uintptr(len(a))
}

// P2: no answer keeps a text that was handed in.
func TestTextNotKept(t *testing.T) {
	s := strings.Clone(source)
	l, _ := line.Parse(s)
	texts := 0
	held := func(answer string) {
		if answer != "" {
			texts++
		}
		if within(answer, s) {
			t.Errorf("P2: %q is kept", answer)
		}
	}
	var walk func(x api.Expr)
	walk = func(x api.Expr) {
		held(x.Name)
		for _, y := range x.L {
			walk(y)
		}
	}
	for _, x := range l {
		held(x.Label)
		held(x.Text)
		for _, a := range x.Args {
			walk(a.E)
		}
	}
	if texts != 13 {
		t.Errorf("%d texts", texts)
	}
	for _, x := range append(l, api.Stmt{Label: "a"}, api.Stmt{Text: "a"}, api.Stmt{Kind: -1, Label: "a", Text: "b"}, api.Stmt{Kind: api.SEqu, Text: "a"}) {
		answer := line.Text(x)
		if within(answer, x.Label) || within(answer, x.Text) {
			t.Errorf("P2: of %q a text is kept", answer)
		}
	}
}

// Example 1 of the chapter.
func ExampleParse() {
	l, bad := line.Parse("")
	fmt.Println(len(l), len(bad))
	l, bad = line.Parse("loop: se_subi r3, 1 # once less\n\nwrong\n bc 0, 2, loop")
	for _, x := range l {
		fmt.Println(x.Line, line.Text(x))
	}
	fmt.Println(bad)
	// Output:
	// 0 0
	// 1 loop: se_subi r3, 1
	// 4 bc 0, 2, loop
	// [3]
}

func ExampleOne() {
	x, is := line.One("lab: e_li r5, 0x10 # sixteen")
	fmt.Println(x.Label, x.Op, x.Args[0].Reg, x.Args[1].E.N, is)
	// Output: lab 48 5 16 true
}

func ExampleText() {
	x, _ := line.One("x:.half\t1 ,y-2")
	fmt.Println(line.Text(x))
	// Output: x: .half 1, y - 2
}

func ExampleWord() {
	fmt.Println(line.Word("r1a"), line.Word("r1"))
	// Output: true false
}
