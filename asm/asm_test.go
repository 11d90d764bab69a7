package asm_test

import (
	"fmt"
	"slices"
	"strings"
	"testing"

	"letterpress/api"
	"letterpress/asm"
	"letterpress/isa"
)

// shown is an image, by digits of sixteen, or the diagnostics.
func shown(frags []api.Frag, syms []api.Sym) string {
	image, diags := asm.Assemble(frags, syms)
	if len(diags) > 0 && len(image) > 0 {
		return "both"
	}
	return fmt.Sprintf("%x%s", image, diagText(diags))
}

// mustBe holds Assemble against what is written out, and all three calls against the second writing.
func mustBe(t *testing.T, s, want string, syms ...api.Sym) {
	t.Helper()
	frags := sourceOf(s)
	if got := shown(frags, syms); got != want {
		t.Errorf("P501: %q: %s, not %s", brief(s), brief(got), brief(want))
	}
	if got, want := told(frags, syms), by(frags, syms).String(); got != want {
		t.Errorf("P501, P502: %q: %s, not %s", brief(s), brief(got), brief(want))
	}
}

func brief(s string) string {
	if len(s) > 600 {
		return s[:600] + " .."
	}
	return s
}

func zeros(n int) string { return strings.Repeat("00", n) }

// space is lines that take n bytes.
func space(n int) string {
	var l []string
	for ; n > 1000; n -= 1000 {
		l = append(l, ".space 1000")
	}
	return strings.Join(append(l, fmt.Sprint(".space ", n)), "\n")
}

func sizes(t *testing.T, s string, want ...int) {
	t.Helper()
	frags := sourceOf(s)
	if got, is := asm.Grown(frags, nil); !is || !slices.Equal(got, want) {
		t.Errorf("P502: %q: %v %v, not %v", brief(s), got, is, want)
	}
	if got, want := told(frags, nil), by(frags, nil).String(); got != want {
		t.Errorf("P501, P502: %q: %s, not %s", brief(s), brief(got), brief(want))
	}
}

// P501: each kind of statement: alone, with a label, behind and ahead of others, in fragments of its own, with symbols.
func TestEachKind(t *testing.T) {
	n := api.Sym{Name: "n", Value: 5}
	for s, want := range map[string]string{
		"":                          "",
		"se_blr":                    "0004",
		"e_li r5, 70000":            "70a20970",
		"add r1, r2, r3":            "7c221a14",
		"se_lwz r3, 4 * 3, r31":     "c33f",
		"e_addi r1, r2, -256":       "18228400",
		"b .":                       "e800",
		"bl . + 2":                  "e901",
		"bc 1, 2, . - 2":            "e6ff",
		"b . + 256":                 "78000100",
		"bl . - 258":                "79fffeff",
		"bc 3, 15, . - 32768":       "7a3f8000",
		".byte 1, 2":                "0102",
		".half 258, 1":              "01020001",
		".long 16909060":            "01020304",
		".ascii \"ab\"":             "6162",
		".ascii \"\"":               "",
		".align 16":                 "",
		".space 4":                  "00000000",
		".space 0":                  "",
		".equ k, 3":                 "",
		"# a remark":                "",
		".byte ., . + 1":            "0001",
		".byte 9, 8, 7\n.align 2":   "09080700",
		".space 6\n.align 4":        zeros(8),
		"se_b . + 254":              "e87f",
		"se_bc 0, 3, . - 256":       "e380",
		"e_bcl 1, 1, . + 32766":     "7a117fff",
		"e_bl . - 16777216":         "79000001",
		".half k\n.equ k, . * . *1": "0004",
	} {
		mustBe(t, s, want)
		mustBe(t, s, want, n)
		if s != "" {
			mustBe(t, "lab: "+strings.ReplaceAll(s, "\n", "\nb_: "), want)
		}
		if strings.Contains(s, "16") && strings.Contains(s, "align") {
			continue
		}
		mustBe(t, s+"\nse_sc", want+"0002", n)
		mustBe(t, s+"\n--\nse_sc", want+"0002")
		mustBe(t, "--\n"+s, "a1 line")
		mustBe(t, "\n--\n\n--\n"+s+"\n--\n", want)
	}
	mustBe(t, "se_sc\n--\nb x\nse_sc\nx:", "0002e8020002")
	mustBe(t, "x: .byte n, n + x\n--\n.half n\n--\n.equ y, n * 2\n.long y - x", "0505"+"0005"+"0000000a", n)
	mustBe(t, "e_li r1, n", "70200005", n)
	mustBe(t, "b n - 1", "e802", n)
	mustBe(t, "e_b n - 1", "78000004", n)
}

// P501: W1, and where bytes stand when several kinds follow one another.
func TestImage(t *testing.T) {
	mustBe(t, strings.Join([]string{
		"start: se_li r3, 5",
		"e_li r4, end - start",
		"loop: bc 1, 0, end",
		"bl loop",
		".ascii \"hi!\"",
		".align 4",
		"tab: .half 1, tab, -2",
		".byte 255, -128",
		".long -2147483648, 4294967295",
		".space 2",
		"end: se_blr",
	}, "\n"), "4853"+"70800022"+"e40e"+"e9ff"+"686921"+"000000"+"0001"+"0010"+"fffe"+"ff80"+"80000000"+"ffffffff"+"0000"+"0004")
}

// P501, part 1.
func TestBadLines(t *testing.T) {
	mustBe(t, "x", "a1 line")
	mustBe(t, "x\n\nse_blr\ny y\n.byte\nr1: se_blr", "a1 line, a4 line, a5 line, a6 line")
	mustBe(t, "se_blr\nq\n--\nw w\nx: x:\n--\n\n--\n\nz", "a2 line, b1 line, b2 line, d2 line")
	mustBe(t, "se_li r32, 1\nse_li 1, r1\nb\nbc 1, 2\n.align\n.space 1, 2\n.equ 1, 1\n.equ x\n.ascii x\n.long 4294967296", "a1 line, a2 line, a3 line, a4 line, a5 line, a6 line, a7 line, a8 line, a9 line, a10 line")
	frags := []api.Frag{{Name: "", Text: "x"}, {Name: "same", Text: "x\nx"}, {Name: "same", Text: "\nx"}, {Name: "not a word!", Text: "x"}}
	if got := shown(frags, nil); got != "1 line, same1 line, same2 line, same2 line, not a word!1 line" {
		t.Errorf("P501: %s", got)
	}
}

// P501, part 2.
func TestTwice(t *testing.T) {
	n := api.Sym{Name: "n", Value: 8}
	for s, want := range map[string]string{
		"x:\nx:":                         "a2 twice",
		"x:\nx: se_blr\nx: b x":          "a2 twice, a3 twice",
		"x:\n.equ x, 1":                  "a2 twice",
		".equ x, 1\nx:":                  "a2 twice",
		".equ x, 1\n.equ x, 1":           "a2 twice",
		"x: .equ x, 1":                   "a1 twice",
		"x: .equ y, 1\nx: .equ y, 1":     "a2 twice, a2 twice",
		"y: .equ x, 1\nx: .equ y, 1":     "a2 twice, a2 twice",
		"x:\ny: .equ x, 1\nx: .equ z, 1": "a2 twice, a3 twice",
		"x:\nx: .equ x, 1":               "a2 twice, a2 twice",
		"n:":                             "a1 twice",
		".equ n, 1":                      "a1 twice",
		"n: .equ n, 1":                   "a1 twice, a1 twice",
		"n: .equ x, 1\nx: .equ n, 1":     "a1 twice, a2 twice, a2 twice",
		"x: se_blr\n--\n--\n\nx: se_blr": "b1 line",
		"x:\n--\n\n--\n\nx:\ny:\n--\ny:": "c2 twice, d1 twice",
		"x:\nxx:\nx_:\ny: .equ x0, x":    "",
		"nn:\nn_: .equ n0, n":            "",
	} {
		mustBe(t, s, want, n)
	}
	mustBe(t, "n: .equ x, 1\nx: .equ n, 1", "a2 twice, a2 twice")
}

// P501, part 3: SAlign, SSpace of all that may and may not be.
func TestSized(t *testing.T) {
	for n := -70; n <= 70; n++ {
		is := n == 1 || n == 2 || n == 4 || n == 8 || n == 16
		wantSized(t, fmt.Sprint(".align ", n), is)
		wantSized(t, fmt.Sprint(".align ", n, " + 1 - 1"), is)
		wantSized(t, fmt.Sprint(".space ", n), n >= 0)
	}
	for n, is := range map[int]bool{999: true, 1000: true, 1001: false, 1002: false, 4096: false, 1<<32 - 1: false, -1000: false} {
		wantSized(t, fmt.Sprint(".space ", n), is)
		wantSized(t, fmt.Sprint(".align ", n), false)
	}
	for _, name := range []string{".space ", ".align "} {
		for s, is := range map[string]bool{
			".":               false,
			". - . + 1":       false,
			"0 * . + 1":       false,
			"-(-(. & 0) - 1)": false,
			"1 | (2 & .)":     false,
			"none":            false,
			"lab":             false,
			"ahead":           false,
			"lab + 4":         false,
			"equ":             false,
			"4 + 0 * equ":     false,
			"n":               true,
			"n * 2":           true,
			"n << 1 >> 1":     true,
			"(n)":             true,
			"m":               false,
			"m + 2":           true,
			"big":             false,
			"big - big + 1":   true,
			"big + 1 - big":   false,
			"1 << 41 >> 41":   false,
			"1 << 40 >> 40":   true,
		} {
			wantSized(t, "ahead: se_blr\n"+name+s+"\nlab:\n.equ equ, 4", is)
		}
	}
	mustBe(t, ".align 3\n.space 2\nx: .space -1\n--\n.align 2\n.align x", "a1 size, a3 size, b2 size")
	mustBe(t, ".align 16\n.align 32\n.space 1000\n.space 1001", "a2 size, a4 size")
}

// wantSized: whether a source's SAlign or SSpace may be, by three symbols.
func wantSized(t *testing.T, s string, is bool) {
	t.Helper()
	syms := []api.Sym{{Name: "n", Value: 8}, {Name: "m", Value: -1}, {Name: "big", Value: 1 << 40}}
	frags := sourceOf(s)
	_, diags := asm.Assemble(frags, syms)
	if got := diagText(diags); (got == "") != is || !is && !strings.HasSuffix(got, " size") {
		t.Errorf("P501: %q: %s", s, got)
	}
	if got, want := told(frags, syms), by(frags, syms).String(); got != want {
		t.Errorf("P501: %q: %s, not %s", s, brief(got), brief(want))
	}
}

// P501: how many bytes SAlign takes at each place, and that its label is ahead of them.
func TestAlign(t *testing.T) {
	for at := range 40 {
		for _, n := range []int{1, 2, 4, 8, 16} {
			lack := (n - at%n) % n
			l, is := asm.Symbols(sourceOf(fmt.Sprintf(".space %d\nx: .align %d\ny: .align %d\nz:", at, n, n)), nil)
			want := []api.Sym{{Name: "x", Value: at}, {Name: "y", Value: at + lack}, {Name: "z", Value: at + lack}}
			if !is || !slices.Equal(l, want) {
				t.Errorf("P501: .align %d at %d: %v, not %v", n, at, l, want)
			}
		}
	}
}

// P501: a part's diagnostics hide those of all parts behind.
func TestPartsInOrder(t *testing.T) {
	parts := []struct{ text, want string }{
		{"!", "line"},
		{"n:", "twice"},
		{".space .", "size"},
		{space(4097), "large"},
		{".byte none", "name"},
	}
	n := api.Sym{Name: "n", Value: 8}
	for from := range parts {
		var ahead, behind []string
		for _, y := range parts[from:] {
			ahead = append(ahead, y.text)
			behind = append([]string{y.text}, behind...)
		}
		for _, l := range [][]string{ahead, behind} {
			_, diags := asm.Assemble(sourceOf(strings.Join(l, "\n")), []api.Sym{n})
			if len(diags) != 1 || diags[0].E.Error() != parts[from].want {
				t.Errorf("P501: %q: %v, not %s", l, diags, parts[from].want)
			}
		}
		// twice the same part, around all the others
		l := append(slices.Clone(ahead), strings.ReplaceAll(ahead[0], "none", "none + 1"))
		mustTellOnly(t, strings.Join(l, "\n"), parts[from].want, n)
	}
	mustBe(t, "x:\nx: b none\n.byte 256", "a2 twice")
	mustBe(t, ".byte 1\nse_blr\n.align 3", "a3 size")
	mustBe(t, "!\nx:\nx:\n.align 3", "a1 line")
}

func mustTellOnly(t *testing.T, s, want string, syms ...api.Sym) {
	t.Helper()
	frags := sourceOf(s)
	_, diags := asm.Assemble(frags, syms)
	for _, d := range diags {
		if d.E.Error() != want {
			t.Errorf("P501: %q: %v, not only %s", brief(s), diags, want)
		}
	}
	if got, want := told(frags, syms), by(frags, syms).String(); got != want {
		t.Errorf("P501: %q: %s, not %s", brief(s), brief(got), brief(want))
	}
}

// P501: branches over just as much as a short one reaches, and over two bytes more.
func TestReach(t *testing.T) {
	for _, name := range []string{"b", "bl", "bc 1, 3,"} {
		sizes(t, name+" x\n.space 252\nx: se_blr", 2)
		sizes(t, name+" x\n.space 254\nx: se_blr", 4)
		sizes(t, "x: .space 256\n"+name+" x", 2)
		sizes(t, "x: .space 258\n"+name+" x", 4)
		sizes(t, name+" . + 254\n"+name+" . + 256\n"+name+" . - 256\n"+name+" . - 258\n"+name+" .", 2, 4, 2, 4, 2)
		sizes(t, "se_blr\n"+name+" 256\n"+name+" 260", 2, 4)
		sizes(t, "x: "+name+" x", 2)
		sizes(t, name+" x\nx:", 2)
	}
	for n := 0; n < 600; n += 2 {
		want := 2
		if n > 252 {
			want = 4
		}
		sizes(t, fmt.Sprintf("b x\n.space %d\nx:", n), want)
		want = 2
		if n > 256 {
			want = 4
		}
		sizes(t, fmt.Sprintf("x: .space %d\nb x", n), want)
	}
	mustBe(t, "b x\n.space 252\nx: se_blr", "e87f"+zeros(252)+"0004")
	mustBe(t, "b x\n.space 254\nx: se_blr", "78000102"+zeros(254)+"0004")
	mustBe(t, "x: .space 256\nbl x", zeros(256)+"e980")
	mustBe(t, "x: .space 258\nbl x", zeros(258)+"79fffeff")
	mustBe(t, "x: .space 258\nbc 1, 2, x", zeros(258)+"7a12fefe")
}

// P501: branches that grow only because others grew, those that all grow in one round, and one that has grown and would reach at the end.
func TestGrowth(t *testing.T) {
	sizes(t, "b y\nb x\n.space 250\nx: se_blr\ny: se_blr", 4, 2)
	sizes(t, "b y\nb y\n.space 252\ny:", 4, 2)
	sizes(t, "b y\nb y\n.space 254\ny:", 4, 4)
	// each one is over the next one alone
	sizes(t, "b x\nb . + 256\n.space 250\nx:", 4, 4)
	sizes(t, "b x\nb . + 254\n.space 250\nx:", 2, 2)
	sizes(t, "x: b . + 254\n.space 254\nb x", 2, 2)
	sizes(t, "x: b . + 256\n.space 254\nb x", 4, 4)
	// an SAlign takes up what grew
	sizes(t, "b x\n.space 246\nb . + 256\n.align 4\nx:", 2, 4)
	sizes(t, "b x\n.space 248\nb . + 256\n.align 4\nx:", 4, 4)
	// by SEqus
	sizes(t, ".equ t, u + 2\nb t\n.equ u, x - 2\nb . + 256\n.space 250\nx:", 4, 4)
	// x rises, so where it goes to falls: it would reach behind the round in which it grew
	sizes(t, "b 260 - x\nx:\nb . + 256", 4, 4)
	sizes(t, "b 258 - x\nx:\nb . + 256", 4, 4)
	sizes(t, "b 256 - x\nx:\nb . + 256", 2, 4)
	// an SEqu that comes to something only when x is where it is at last
	sizes(t, "b k\nb . + 256\nx:\n.equ k, 1000 << (x - 6)", 4, 4)
	mustBe(t, "b k\nb . + 256\nx:\n.equ k, 1 >> (5 - x)", "a1 name, a4 range")
	// ... and one that came to something only ahead
	mustBe(t, "b . + 256\nx:\n.equ k, 1 << (2 - x)\n.byte k", "a3 range, a4 name")
}

// row is branches of which each reaches only as long as the one ahead of it is short, and the first never does.
func row(n int) []string {
	l := []string{"l0: b . - 258"}
	for i := 1; i < n; i++ {
		l = append(l, fmt.Sprintf("l%d: %s l%d - 254", i, []string{"b", "bl", "bc 1, 2,"}[i%3], i-1))
	}
	return l
}

// P501: as many rounds as an image has place for, one branch in each; and Large only at the end of them.
func TestRounds(t *testing.T) {
	if n := by(sourceOf(strings.Join(row(50), "\n")), nil).rounds; n != 50 {
		t.Fatalf("%d rounds", n)
	}
	sizes(t, strings.Join(row(50), "\n"), slices.Repeat([]int{4}, 50)...)
	// the other way round the same ones are never too far off
	l := row(50)
	l[0] = "l0: b . - 256"
	sizes(t, strings.Join(l, "\n"), slices.Repeat([]int{2}, 50)...)
	frags := parted(row(1024))
	image, diags := asm.Assemble(frags, nil)
	if len(image) != 4096 || len(diags) != 0 {
		t.Errorf("P501: %d %v", len(image), diags)
	}
	if got := shown(parted(row(1025)), nil); got != "0 large" {
		t.Errorf("P501: %s", brief(got))
	}
}

// parted is lines in fragments of at most 5000 bytes.
func parted(lines []string) []api.Frag {
	var l []api.Frag
	text := ""
	for _, s := range lines {
		if len(text)+len(s)+1 > 5000 {
			l = append(l, api.Frag{Name: fmt.Sprint("f", len(l)), Text: text})
			text = ""
		}
		text += s + "\n"
	}
	return append(l, api.Frag{Name: fmt.Sprint("f", len(l)), Text: text})
}

// P501: a branch whose target is an error stays short: an image that has no place for a long one is not Large.
func TestTargetError(t *testing.T) {
	full := space(4094) + "\n"
	for s, want := range map[string]string{
		"b none":               "a6 name",
		"b 1 << 50":            "a6 range",
		"b none + (1 << 50)":   "a6 name",
		"bc none, 1, .":        "a6 name",
		"bc 1, 1 << 50, .":     "a6 range",
		"b . + 2":              full,
		"b . + 256":            "0 large",
		"b . + 1":              "0 large",
		"bc none, 1, . + 256":  "0 large",
		"bc 9, 9, . + 2":       "a6 range",
		"b k\n.equ k, k":       "a6 name, a7 cycle",
		"b k\n.equ k, none":    "a6 name, a7 name",
		"b k\n.equ k, 1 << 50": "a6 name, a7 range",
		"b k\n.equ k, 0":       "0 large",
	} {
		if want == full {
			want = zeros(4094) + "e801"
		}
		mustBe(t, full+s, want)
	}
	mustBe(t, "b . + 1", "a1 range")
	mustBe(t, "b . + 16777214", "78fffffe")
	mustBe(t, "b . + 16777216", "a1 range")
	mustBe(t, "b . - 16777216", "79000000")
	mustBe(t, "bl . - 16777218", "a1 range")
	mustBe(t, "bc 0, 0, . + 32766", "7a007ffe")
	mustBe(t, "bc 0, 0, . + 32768", "a1 range")
	mustBe(t, "bc 0, 0, . - 32770", "a1 range")
	mustBe(t, "b 1 << 40", "a1 range")
	mustBe(t, "b -(1 << 40)", "a1 range")
}

// P501: SEqus that hang on one another, in any order.
func TestEquOrder(t *testing.T) {
	lines := []string{".equ a, b + c", ".equ b, c * 2", ".equ c, d", "x: .equ d, n + x"}
	n := api.Sym{Name: "n", Value: 7}
	var all func(l []string, i int)
	all = func(l []string, i int) {
		if i == len(l) {
			mustBe(t, ".byte 0\n"+strings.Join(l, "\n")+"\n.byte a, b, c, d, x", "00"+"1810080801", n)
			return
		}
		for j := i; j < len(l); j++ {
			l[i], l[j] = l[j], l[i]
			all(l, i+1)
			l[i], l[j] = l[j], l[i]
		}
	}
	all(lines, 0)
	// each at its own place
	mustBe(t, ".equ a, .\n.space 3\n.equ b, . + a\n.space 2\n.equ c, . + b\n.byte a, b, c, .", zeros(5)+"00030805")
	mustBe(t, ".equ c, . + b\n.space 3\n.equ b, . + a\n.space 2\n.equ a, .\n.byte a, b, c, .", zeros(5)+"05080805")
	// many of them, from the last one on
	var l []string
	for i := range 1500 {
		l = append(l, fmt.Sprintf(".equ e%d, e%d + 1", i, i+1))
	}
	if got := shown(parted(append(l, ".equ e1500, .", ".half e0, e1499")), nil); got != "05dc0001" {
		t.Errorf("P501: %s", brief(got))
	}
}

// P501: SEqus that are never known.
func TestEquErrors(t *testing.T) {
	n := api.Sym{Name: "n", Value: 7}
	for s, want := range map[string]string{
		".equ a, a":                                     "a1 cycle",
		".equ a, a - a":                                 "a1 cycle",
		".equ a, b\n.equ b, a":                          "a1 cycle, a2 cycle",
		".equ a, b\n.equ b, c\n.equ c, a":               "a1 cycle, a2 cycle, a3 cycle",
		".equ a, b\n.equ b, c\n.equ c, b":               "a1 cycle, a2 cycle, a3 cycle",
		".equ a, none":                                  "a1 name",
		".equ a, a + none":                              "a1 name",
		".equ a, none + a":                              "a1 name",
		".equ a, b\n.equ b, none":                       "a1 cycle, a2 name",
		".equ a, b + none\n.equ b, none":                "a1 name, a2 name",
		".equ a, n + b + x\n.equ b, a\nx:":              "a1 cycle, a2 cycle",
		".equ a, 1 << 50":                               "a1 range",
		".equ a, b\n.equ b, 1 << 50":                    "a1 cycle, a2 range",
		".equ a, (1 << 50) + none":                      "a1 range",
		".equ a, none + (1 << 50)":                      "a1 name",
		".equ a, a + (1 << 50)":                         "a1 cycle",
		".equ a, (1 << 50) + a":                         "a1 range",
		".equ a, a\n.byte a, 256":                       "a1 cycle, a2 name",
		".equ a, a\n.byte 1 << 50, a":                   "a1 cycle, a2 range",
		".equ a, a\nb a\nse_li r9, a":                   "a1 cycle, a2 name, a3 name",
		".equ a, b\n--\n.equ b, c\n--\n.equ c, a\nx:":   "a1 cycle, b1 cycle, c1 cycle",
		".equ a, 1 << 40\n.equ b, -a\n.equ c, a >> 40":  "",
		".equ a, 1 << 40\n.equ b, a + 1":                "a2 range",
		".byte 1\n.equ a, b\n.equ b, a\nse_blr":         "a2 cycle, a3 cycle, a4 odd",
		".equ a, x - y\nx: .equ b, a\n.space 1\ny: b b": "a4 odd",
	} {
		mustBe(t, s, want, n)
	}
}

// P501: an image of 4096 bytes and of 4097.
func TestLarge(t *testing.T) {
	mustBe(t, space(4096), zeros(4096))
	mustBe(t, space(4097), "0 large")
	mustBe(t, space(4095)+"\n.byte 7", zeros(4095)+"07")
	mustBe(t, space(4096)+"\n.byte 7", "0 large")
	mustBe(t, space(4096)+"\nx: .equ y, x\n.align 16\n.ascii \"\"", zeros(4096))
	mustBe(t, space(4090)+"\n.align 16", zeros(4096))
	mustBe(t, space(4092)+"\nb 0", zeros(4092)+"79fff004")
	mustBe(t, space(4094)+"\nb 0", "0 large")
	mustBe(t, "b x\n"+space(4092)+"\nx:", "78001000"+zeros(4092))
	mustBe(t, "b x\n"+space(4094)+"\nx:", "0 large")
	mustBe(t, space(4090)+"\nadd r1, r2, r3\nse_blr", zeros(4090)+"7c221a140004")
	mustBe(t, space(4094)+"\nadd r1, r2, r3", "0 large")
	mustBe(t, space(4097)+"\n.byte none, 256\nse_blr", "0 large")
	mustBe(t, space(5000)+"\n--\n"+space(5000), "0 large")
	mustBe(t, "b x\n"+strings.Repeat("b x\n", 2048)+"x:", "0 large")
	// longer than an expression's place may be
	many := api.Frag{Name: "a", Text: strings.Repeat(".space 1000\n", 400)}
	frags := slices.Repeat([]api.Frag{many}, 20)
	frags[19].Text = "x: .equ y, .\nb .\n.byte ., none"
	if got := shown(frags, nil); got != "0 large" {
		t.Errorf("P501: %s", brief(got))
	}
}

// P501: instructions and branches at odd places; all else may be there.
func TestOdd(t *testing.T) {
	for _, y := range []struct {
		s   string
		odd bool
	}{
		{"se_blr", true}, {"add r1, r2, r3", true}, {"b .", true}, {"bl . + 256", true}, {"bc 1, 1, . - 1", true},
		{"b none", true}, {"se_li r9, none", true}, {"se_li r9, 999", true}, {"b . + 1", true}, {"e_b 1 << 50", true},
		{".byte 1", false}, {".half 1", false}, {".long 1", false}, {".ascii \"a\"", false}, {".align 2", false},
		{".space 3", false}, {".equ x, .", false}, {"x:", false}, {"", false},
	} {
		for at := range 6 {
			s := fmt.Sprintf(".space %d\n%s", at, y.s)
			_, diags := asm.Assemble(sourceOf(s), nil)
			odd := len(diags) == 1 && diags[0] == api.Diag{Frag: "a", Line: 2, E: api.Odd}
			if odd != (y.odd && at%2 == 1) || !odd && slices.ContainsFunc(diags, func(d api.Diag) bool { return d.E == api.Odd }) {
				t.Errorf("P501: %q: %v", s, diags)
			}
		}
	}
	mustBe(t, ".byte 1\nse_blr\nb .\n.byte 1\nse_blr\n--\nx: add r1, r2, r3\n.ascii \"a\"\nb x", "a2 odd, a3 odd, b3 odd")
}

// P501: numbers at their bounds, and one beyond.
func TestNumbers(t *testing.T) {
	for _, y := range []struct {
		name        string
		size        int
		least, most int
	}{{".byte", 1, -128, 255}, {".half", 2, -32768, 65535}, {".long", 4, -1 << 31, 1<<32 - 1}} {
		for _, n := range []int{y.least - 1, y.least, y.least + 1, -1, 0, 1, y.most - 1, y.most, y.most + 1, 1 << 40, -1 << 40} {
			want := fmt.Sprintf("%08x", uint32(n))[8-2*y.size:]
			if n < y.least || n > y.most {
				want = "a1 range"
			}
			n := api.Sym{Name: "n", Value: n}
			mustBe(t, y.name+" n", want, n)
			if want != "a1 range" {
				want = strings.Repeat("0", 2*y.size-1) + "1" + want + strings.Repeat("0", 2*y.size)
			}
			mustBe(t, y.name+" 1, n, 0", want, n)
		}
		// sixteen of them
		mustBe(t, y.name+" 1"+strings.Repeat(", 1", 15), strings.Repeat(strings.Repeat("0", 2*y.size-1)+"1", 16))
		mustBe(t, y.name+" 1"+strings.Repeat(", 1", 16), "a1 line")
	}
}

// P501: of a statement the first error alone: Odd, then that of the first operand that has one, then Range by kinds.
func TestFirstError(t *testing.T) {
	for s, want := range map[string]string{
		".byte none, 1 << 50":                "a1 name",
		".byte 1 << 50, none":                "a1 range",
		".byte 256, none":                    "a1 name",
		".byte none, 256":                    "a1 name",
		".byte 256, 257":                     "a1 range",
		"se_li r9, none":                     "a1 name",
		"se_li r9, 1":                        "a1 range",
		"se_li r3, 128":                      "a1 range",
		"se_lwz r9, none, r10":               "a1 name",
		"bc 9, none, .":                      "a1 name",
		"bc none, 1 << 50, none":             "a1 name",
		"bc 1 << 50, none, none":             "a1 range",
		".byte none, none, none":             "a1 name",
		".byte 256\n.byte none\n.half -none": "a1 range, a2 name, a3 name",
		".byte 1\nb none":                    "a2 odd",
	} {
		mustBe(t, s, want)
	}
}

// P501: each operand of each instruction, at its bounds and one beyond: what isa.Encode says of it, branches less their place.
func TestOperands(t *testing.T) {
	numbers := []int{0, 1, 2, 3, 4, 7, 8, 15, 16, 30, 31, 32, 33, 60, 64, 127, 128, 254, 255, 256, 257, 32766, 32767, 32768, 1<<19 - 1, 1 << 19, 1<<24 - 2, 1 << 24, 1<<32 - 11, -1, -2, -3, -255, -256, -257, -258, -32768, -32769, -32770, -1 << 19, -1<<19 - 1, -1 << 24, -1<<24 - 2}
	for op := 0; isa.Size(op) > 0; op++ {
		kinds := strings.Fields(isa.Kinds(op))
		for at := 0; at < 12; at += 10 {
			for i, kind := range kinds {
				values := numbers
				if strings.Contains(" X Y D A B ", " "+kind+" ") {
					values = []int{0, 7, 8, 23, 24, 31}
				}
				for _, n := range values {
					checkOperand(t, op, at, i, n)
				}
			}
			if len(kinds) == 0 {
				checkOperand(t, op, at, 0, 0)
			}
		}
	}
}

// checkOperand holds one instruction at that place, operand number i of which is n, the others 1 (of branches 2), against isa.Encode.
func checkOperand(t *testing.T, op, at, i, n int) {
	t.Helper()
	x := api.Inst{Op: op}
	var texts []string
	for j, kind := range strings.Fields(isa.Kinds(op)) {
		v := 1
		if kind[0] == 'T' || kind == "M2" {
			v = 2
		}
		if kind == "M4" {
			v = 4
		}
		if j == i {
			v = n
		}
		x.F = append(x.F, v)
		switch {
		case strings.Contains(" X Y D A B ", " "+kind+" "):
			texts = append(texts, fmt.Sprint("r", v))
		case kind[0] == 'T':
			texts = append(texts, fmt.Sprint(v+at))
		default:
			texts = append(texts, fmt.Sprint(v))
		}
	}
	want := fmt.Sprint("a2 ", api.Range)
	if b, is := isa.Encode(x); is {
		want = fmt.Sprintf("%s%x", zeros(at), b)
	}
	s := fmt.Sprintf(".space %d\n%s %s", at, isa.Name(op), strings.Join(texts, ", "))
	if got := shown(sourceOf(s), nil); got != want {
		t.Errorf("P501: %q: %s, not %s", s, got, want)
	}
}

// P502, W3: names rise as texts do, byte by byte.
func TestSymbols(t *testing.T) {
	for s, want := range map[string]string{
		"":                             "[{B 9} {n 8}] true",
		"a:":                           "[{B 9} {a 0} {n 8}] true",
		"z: se_blr\na: se_blr\nm:":     "[{B 9} {a 2} {m 4} {n 8} {z 0}] true",
		".equ a, n * 2\nb: .equ c, -n": "[{B 9} {a 16} {b 0} {c -8} {n 8}] true",
		"b:\nb_:\nb1:\nbb:\n_b:\na:":   "[{B 9} {_b 0} {a 0} {b 0} {b1 0} {b_ 0} {bb 0} {n 8}] true",
		"x: .space 3\n--\ny: .align 4\n--\nz: .equ w, z - x": "[{B 9} {n 8} {w 4} {x 0} {y 3} {z 4}] true",
		"b x\n.space 254\nx:":                                "[{B 9} {n 8} {x 258}] true",
		".equ a, 1 << 40\n.equ b, -a":                        "[{B 9} {a 1099511627776} {b -1099511627776} {n 8}] true",
		"!":                                                  "[] false",
		"a:\na:":                                             "[] false",
		"n:":                                                 "[] false",
		"a: .align 3":                                        "[] false",
		".equ a, a":                                          "[] false",
		"a: b none":                                          "[] false",
		"a: .byte 256":                                       "[] false",
		space(4097):                                          "[] false",
		".byte 1\nb . ":                                      "[] false",
		".equ k, 1 << n":                                     "[{B 9} {k 256} {n 8}] true",
	} {
		l, is := asm.Symbols(sourceOf(s), []api.Sym{{Name: "n", Value: 8}, {Name: "B", Value: 9}})
		if got := fmt.Sprint(l, is); got != want {
			t.Errorf("P502: %q: %s, not %s", s, got, want)
		}
	}
	if l, is := asm.Symbols(nil, nil); len(l) != 0 || !is {
		t.Errorf("P502: of nothing: %v %v", l, is)
	}
	// 60 symbols, the last one first
	var syms []api.Sym
	for i := range 60 {
		syms = append(syms, api.Sym{Name: fmt.Sprintf("s%02d", 59-i), Value: i})
	}
	l, is := asm.Symbols(sourceOf(".equ sum, s00 + s59\nt:"), syms)
	if len(l) != 62 || !is || l[0] != (api.Sym{Name: "s00", Value: 59}) || l[59] != (api.Sym{Name: "s59", Value: 0}) || l[60] != (api.Sym{Name: "sum", Value: 59}) {
		t.Errorf("P502: %v %v", l, is)
	}
}

// P502: Grown tells of branches that grow alone.
func TestGrown(t *testing.T) {
	sizes(t, "")
	sizes(t, "se_b .\ne_b .\nse_blr\n.byte 1, 2")
	sizes(t, "b .\nse_b .\nbl . + 1000\n--\ne_b . + 1000\nbc 0, 0, . - 1000\nb . + 2", 2, 4, 4, 2)
	for _, s := range []string{"b none", "b .\n!", "b .\nx:\nx:", "b .\n.align 3", "b .\n" + space(4097), "b .\n.byte 256", "b . + 1"} {
		if l, is := asm.Grown(sourceOf(s), nil); is || len(l) > 0 {
			t.Errorf("P502: %q: %v %v", s, l, is)
		}
	}
	if l, is := asm.Grown(nil, nil); len(l) != 0 || !is {
		t.Errorf("P502: of nothing: %v %v", l, is)
	}
}

// P501: fragments are one source: where it is parted changes nothing but which fragment and line a diagnostic tells.
func TestFragments(t *testing.T) {
	lines := []string{"a: b z", ".equ k, m + a", "x: .half k, z", ".space 300", "m: bl x", ".align 8", "z: bc 1, 2, a"}
	want := told([]api.Frag{{Name: "a", Text: strings.Join(lines, "\n")}}, nil)
	for cuts := range 1 << (len(lines) - 1) {
		text := lines[0]
		for i, s := range lines[1:] {
			if cuts>>i&1 == 1 {
				text += "\n--"
			}
			text += "\n" + s
		}
		if got := told(sourceOf(text), nil); got != want {
			t.Errorf("P501: %q: %s, not %s", text, brief(got), brief(want))
		}
	}
	// a line does not go on in the next fragment
	mustBe(t, "se_\n--\nblr", "a1 line, b1 line")
}

// Example 1 of the chapter.
func ExampleAssemble() {
	image, diags := asm.Assemble(nil, nil)
	fmt.Println(len(image), len(diags))
	image, _ = asm.Assemble([]api.Frag{{Name: "main", Text: "start: se_li r3, size\nb start"}}, []api.Sym{{Name: "size", Value: 5}})
	fmt.Printf("%x\n", image)
	_, diags = asm.Assemble([]api.Frag{{Name: "main", Text: "se_blr\nb nowhere"}}, nil)
	fmt.Println(diags)
	// Output:
	// 0 0
	// 4853e8ff
	// [{main 2 name}]
}

func ExampleSymbols() {
	fmt.Println(asm.Symbols([]api.Frag{{Name: "main", Text: "se_blr\nend: .equ twice, end * n"}}, []api.Sym{{Name: "n", Value: 2}}))
	// Output: [{end 2} {n 2} {twice 4}] true
}

func ExampleGrown() {
	fmt.Println(asm.Grown([]api.Frag{{Name: "main", Text: "b end\nbl end\n.space 252\nend:"}}, nil))
	// Output: [4 2] true
}
