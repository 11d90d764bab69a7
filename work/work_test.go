package work_test

import (
	"fmt"
	"math"
	"strings"
	"testing"

	"letterpress/api"
	"letterpress/work"
)

// P901: requests of each kind that are right, and what makes them wrong.
func TestRight(t *testing.T) {
	full, over := strings.Repeat("x", 600), strings.Repeat("x", 601)
	const most = 1 << 40
	for _, y := range []struct {
		r    api.Request
		want bool
	}{
		{api.Request{}, false}, {api.Request{Name: "a"}, false},
		{api.Request{Kind: -1, Name: "a"}, false}, {api.Request{Kind: 8, Name: "a"}, false}, {api.Request{Kind: 8}, false},
		{api.Request{Kind: math.MinInt, Name: "a"}, false}, {api.Request{Kind: math.MaxInt}, false}, {api.Request{Kind: 1<<32 + 7}, false}, {api.Request{Kind: 1<<32 + 2, Name: "a"}, false},
		{put("a", ""), true}, {put("a", "x"), true}, {put("a", "\x00\xff\n"), true}, {put("a", full), true}, {put("a", over), false}, {put("", ""), false}, {put("", full), false},
		{api.Request{Kind: 1, Name: "a", Value: 1}, false}, {api.Request{Kind: 1, Name: "a", Text: "x", Value: -1}, false},
		{del("a"), true}, {del(""), false}, {api.Request{Kind: 2, Name: "a", Text: "x"}, false}, {api.Request{Kind: 2, Name: "a", Value: 1}, false},
		{more("a", ""), true}, {more("a", full), true}, {more("a", over), false}, {more("", "x"), false}, {api.Request{Kind: 3, Name: "a", Value: 1}, false},
		{show("a"), true}, {show(""), false}, {api.Request{Kind: 4, Name: "a", Text: "\x00"}, false}, {api.Request{Kind: 4, Name: "a", Value: -1}, false},
		{define("a", 0), true}, {define("a", most), true}, {define("a", -most), true}, {define("a", most+1), false}, {define("a", -most-1), false},
		{define("a", math.MaxInt), false}, {define("a", math.MinInt), false}, {define("", 1), false}, {api.Request{Kind: 5, Name: "a", Text: "x"}, false}, {api.Request{Kind: 5, Name: "a", Text: "x", Value: 1}, false},
		{undef("a"), true}, {undef(""), false}, {api.Request{Kind: 6, Name: "a", Text: "x"}, false}, {api.Request{Kind: 6, Name: "a", Value: 1}, false},
		{build, true}, {api.Request{Kind: 7, Name: "a"}, false}, {api.Request{Kind: 7, Text: "x"}, false}, {api.Request{Kind: 7, Value: 1}, false}, {api.Request{Kind: 7, Name: "r1"}, false}, {api.Request{Kind: 7, Name: "\x00"}, false},
	} {
		if got := work.Right(y.r); got != y.want {
			t.Errorf("P901: %.60q: %v", fmt.Sprint(y.r), got)
		}
		if got := work.New().Do(y.r).E == api.BadFrame; got == y.want {
			t.Errorf("P902: %.60q: BadFrame %v", fmt.Sprint(y.r), got)
		}
	}
}

// P901: which names are words; of each kind that has a name.
func TestNames(t *testing.T) {
	for _, y := range []struct {
		name string
		want bool
	}{
		{"a", true}, {"_", true}, {"z9", true}, {"___", true}, {"a_b_c", true}, {"twelve_bytes", true}, {"thirteen_byte", false}, {"a23456789012", true}, {"a234567890123", false},
		{"r", true}, {"r1", false}, {"r0", false}, {"r31", false}, {"r32", false}, {"r00", false}, {"r12345678901", false}, {"r1a", true}, {"r_", true}, {"r_1", true}, {"rr1", true}, {"ar1", true}, {"r1_", true},
		{"", false}, {" ", false}, {"a ", false}, {" a", false}, {"A", false}, {"aB", false}, {"1", false}, {"1a", false}, {"a-b", false}, {"a.b", false}, {".", false}, {"a:", false}, {"(a)", false}, {"a\n", false}, {"a\x00", false}, {"é", false}, {"\xff", false}, {"ｒ1", false},
		{"b", true}, {"se_blr", true}, {strings.Repeat("a", 1<<20), false},
	} {
		for kind := api.RPut; kind < api.RBuild; kind++ {
			r := api.Request{Kind: kind, Name: y.name}
			if got := work.Right(r); got != y.want {
				t.Errorf("P901: kind %d, %.20q: %v", kind, y.name, got)
			}
		}
		if got := work.Right(api.Request{Kind: api.RBuild, Name: y.name}); got != (y.name == "") {
			t.Errorf("P901: a build, %.20q: %v", y.name, got)
		}
	}
}

// P902: a work that was just made.
func TestNew(t *testing.T) {
	w := work.New()
	if len(w.Frags()) != 0 || len(w.Syms()) != 0 {
		t.Errorf("P902: %v, %v", w.Frags(), w.Syms())
	}
	for _, y := range []struct {
		r    api.Request
		want api.Errno
	}{
		{api.Request{}, api.BadFrame}, {del("a"), api.Missing}, {more("a", ""), api.Missing}, {more("a", "x"), api.Missing}, {show("a"), api.Missing}, {undef("a"), api.Missing}, {build, api.OK},
	} {
		if got := told(w.Do(y.r)); got != told(api.Response{E: y.want}) {
			t.Errorf("P902: %v: %s", y.r, got)
		}
		if len(w.Frags()) != 0 || len(w.Syms()) != 0 {
			t.Errorf("P902, P5: %v: %v, %v", y.r, w.Frags(), w.Syms())
		}
	}
}

// P902: one work, request by request: what each is answered, and what is there then.
func TestRow(t *testing.T) {
	y := newPair(t)
	is := func(e api.Errno) api.Response { return api.Response{E: e} }
	diag := func(l ...api.Diag) api.Response { return api.Response{E: api.Errors, Diags: l} }
	for i, x := range []struct {
		r      api.Request
		want   api.Response
		source string
	}{
		{put("b", "l: b l"), is(api.OK), `[{"b" "l: b l"}] []`},
		{put("a", ""), is(api.OK), `[{"a" ""} {"b" "l: b l"}] []`},
		{show("a"), is(api.OK), `[{"a" ""} {"b" "l: b l"}] []`},
		{show("b"), api.Response{Text: "l: b l"}, `[{"a" ""} {"b" "l: b l"}] []`},
		{show("l"), is(api.Missing), `[{"a" ""} {"b" "l: b l"}] []`},
		{build, api.Response{Image: []byte{0xe8, 0}}, `[{"a" ""} {"b" "l: b l"}] []`},
		{more("a", "se_li r3, "), is(api.OK), `[{"a" "se_li r3, "} {"b" "l: b l"}] []`},
		{build, diag(api.Diag{Frag: "a", Line: 1, E: api.BadLine}), `[{"a" "se_li r3, "} {"b" "l: b l"}] []`},
		{more("a", "n"), is(api.OK), `[{"a" "se_li r3, n"} {"b" "l: b l"}] []`},
		{build, diag(api.Diag{Frag: "a", Line: 1, E: api.Name}), `[{"a" "se_li r3, n"} {"b" "l: b l"}] []`},
		{define("n", 7), is(api.OK), `[{"a" "se_li r3, n"} {"b" "l: b l"}] [{n 7}]`},
		{build, api.Response{Image: []byte{0x48, 0x73, 0xe8, 0}}, `[{"a" "se_li r3, n"} {"b" "l: b l"}] [{n 7}]`},
		{define("l", 0), is(api.OK), `[{"a" "se_li r3, n"} {"b" "l: b l"}] [{l 0} {n 7}]`},
		{build, diag(api.Diag{Frag: "b", Line: 1, E: api.Twice}), `[{"a" "se_li r3, n"} {"b" "l: b l"}] [{l 0} {n 7}]`},
		{undef("l"), is(api.OK), `[{"a" "se_li r3, n"} {"b" "l: b l"}] [{n 7}]`},
		{undef("l"), is(api.Missing), `[{"a" "se_li r3, n"} {"b" "l: b l"}] [{n 7}]`},
		{define("n", 1), is(api.OK), `[{"a" "se_li r3, n"} {"b" "l: b l"}] [{n 1}]`},
		{build, api.Response{Image: []byte{0x48, 0x13, 0xe8, 0}}, `[{"a" "se_li r3, n"} {"b" "l: b l"}] [{n 1}]`},
		{put("n", ".byte n\n"), is(api.OK), `[{"a" "se_li r3, n"} {"b" "l: b l"} {"n" ".byte n\n"}] [{n 1}]`}, // a fragment of a symbol's name
		{build, api.Response{Image: []byte{0x48, 0x13, 0xe8, 0, 1}}, `[{"a" "se_li r3, n"} {"b" "l: b l"} {"n" ".byte n\n"}] [{n 1}]`},
		{undef("n"), is(api.OK), `[{"a" "se_li r3, n"} {"b" "l: b l"} {"n" ".byte n\n"}] []`},
		{build, diag(api.Diag{Frag: "a", Line: 1, E: api.Name}, api.Diag{Frag: "n", Line: 1, E: api.Name}), `[{"a" "se_li r3, n"} {"b" "l: b l"} {"n" ".byte n\n"}] []`},
		{undef("a"), is(api.Missing), `[{"a" "se_li r3, n"} {"b" "l: b l"} {"n" ".byte n\n"}] []`},
		{define("n", -2), is(api.OK), `[{"a" "se_li r3, n"} {"b" "l: b l"} {"n" ".byte n\n"}] [{n -2}]`},
		{del("a"), is(api.OK), `[{"b" "l: b l"} {"n" ".byte n\n"}] [{n -2}]`},
		{del("a"), is(api.Missing), `[{"b" "l: b l"} {"n" ".byte n\n"}] [{n -2}]`},
		{more("a", "x"), is(api.Missing), `[{"b" "l: b l"} {"n" ".byte n\n"}] [{n -2}]`},
		{show("a"), is(api.Missing), `[{"b" "l: b l"} {"n" ".byte n\n"}] [{n -2}]`},
		{build, api.Response{Image: []byte{0xe8, 0, 0xfe}}, `[{"b" "l: b l"} {"n" ".byte n\n"}] [{n -2}]`},
		{put("b", ""), is(api.OK), `[{"b" ""} {"n" ".byte n\n"}] [{n -2}]`},
		{show("b"), is(api.OK), `[{"b" ""} {"n" ".byte n\n"}] [{n -2}]`},
		{del("n"), is(api.OK), `[{"b" ""}] [{n -2}]`},
		{build, is(api.OK), `[{"b" ""}] [{n -2}]`},
		{del("b"), is(api.OK), `[] [{n -2}]`},
		{undef("n"), is(api.OK), `[] []`},
		{build, is(api.OK), `[] []`},
	} {
		if got := told(y.do(x.r)); got != told(x.want) {
			t.Errorf("P902: %d: %v: %s, not %s", i, x.r, got, told(x.want))
		}
		if got := toldSource(y.w.Frags(), y.w.Syms()); got != x.source {
			t.Errorf("P902: %d: %v: %s, not %s", i, x.r, got, x.source)
		}
	}
}

// P902: texts as long as they may be, put and appended. A text that would be too long changes nothing.
func TestLongTexts(t *testing.T) {
	of := func(n int) string { return strings.Repeat("0123456789", 70)[:n] }
	for _, x := range []struct {
		first, behind int
		want          api.Errno
	}{
		{0, 0, api.OK}, {0, 600, api.OK}, {600, 0, api.OK}, {600, 1, api.Limit}, {600, 600, api.Limit}, {599, 1, api.OK}, {599, 2, api.Limit}, {1, 599, api.OK}, {1, 600, api.Limit}, {300, 300, api.OK}, {300, 301, api.Limit},
		{0, 601, api.BadFrame}, {600, 601, api.BadFrame}, {1, 700, api.BadFrame},
	} {
		y := newPair(t)
		if r := y.do(put("a", of(x.first))); r.E != api.OK {
			t.Errorf("P902: %d: %v", x.first, r.E)
		}
		if r := y.do(more("a", of(x.behind))); r.E != x.want {
			t.Errorf("P902: %d and %d: %v, not %v", x.first, x.behind, r.E, x.want)
		}
		want := of(x.first)
		if x.want == api.OK {
			want += of(x.behind)
		}
		if r := y.do(show("a")); r.Text != want {
			t.Errorf("P902, P5: %d and %d: %q", x.first, x.behind, r.Text)
		}
	}
	y := newPair(t)
	if r := y.do(put("a", of(601))); r.E != api.BadFrame || len(y.w.Frags()) != 0 {
		t.Errorf("P902: 601 bytes: %v", r.E)
	}
	y.do(put("a", "as it was"))
	if r := y.do(put("a", of(601))); r.E != api.BadFrame || y.do(show("a")).Text != "as it was" {
		t.Errorf("P902: 601 bytes: %v", r.E)
	}
}

// P902: a text that grows byte by byte.
func TestByteByByte(t *testing.T) {
	y := newPair(t)
	y.do(put("a", ""))
	for i := range 605 {
		want := api.OK
		if i >= 600 {
			want = api.Limit
		}
		if r := y.do(more("a", string(rune('a'+i%26)))); r.E != want {
			t.Errorf("P902: byte %d: %v", i, r.E)
		}
	}
	y.do(put("a", "x"))
	if r := y.do(more("a", "y")); r.E != api.OK || y.do(show("a")).Text != "xy" {
		t.Errorf("P902: %v", r.E)
	}
}

// P902: values up to their ends, and beyond.
func TestValues(t *testing.T) {
	const most = 1 << 40
	y := newPair(t)
	for _, x := range []struct {
		value int
		want  string
	}{{most, "[{a 1099511627776}]"}, {most + 1, "[{a 1099511627776}]"}, {-most, "[{a -1099511627776}]"}, {-most - 1, "[{a -1099511627776}]"}, {0, "[{a 0}]"}, {math.MaxInt, "[{a 0}]"}, {math.MinInt, "[{a 0}]"}, {-1, "[{a -1}]"}} {
		y.do(define("a", x.value))
		if got := fmt.Sprint(y.w.Syms()); got != x.want {
			t.Errorf("P902: %d: %s, not %s", x.value, got, x.want)
		}
	}
}

// P902: eight fragments and eight symbols; a ninth, with one that is there already between; and room again when one is gone.
func TestLimits(t *testing.T) {
	for _, x := range []struct {
		name  string
		add   func(name string, n int) api.Request
		take  func(name string) api.Request
		other func(name string, n int) api.Request // of the other kind, which has a limit of its own
	}{
		{"fragments", func(name string, n int) api.Request { return put(name, fmt.Sprint("# ", n)) }, del, define},
		{"symbols", define, undef, func(name string, n int) api.Request { return put(name, fmt.Sprint("# ", n)) }},
	} {
		y := newPair(t)
		is := func(want api.Errno, r api.Request) {
			t.Helper()
			if a := y.do(r); a.E != want {
				t.Errorf("P902: %s: %v: %v, not %v", x.name, r, a.E, want)
			}
		}
		for i, name := range []string{"h", "a", "g", "b", "f", "c", "e", "d"} {
			is(api.OK, x.add(name, i))
			is(api.OK, x.add(name, i+1))
		}
		for _, name := range []string{"i", "_", "aa", "z"} {
			is(api.Limit, x.add(name, 1))
			is(api.Missing, x.take(name))
		}
		for i := range 8 {
			name := "abcdefgh"[i : i+1]
			is(api.OK, x.add(name, 10*i))
			is(api.OK, x.other(name, i))
			is(api.OK, x.take(name))
			is(api.Missing, x.take(name))
			is(api.OK, x.add("i"+name, i))
			is(api.Limit, x.add(name, i))
			is(api.OK, x.take("i"+name))
			is(api.OK, x.add(name, i))
			is(api.Limit, x.add("i"+name, i))
		}
		is(api.Limit, x.other("z", 1))
		for i := range 8 {
			is(api.OK, x.take("abcdefgh"[i:i+1]))
		}
		is(api.Missing, x.take("a"))
		if n := len(y.w.Frags()) + len(y.w.Syms()); n != 8 {
			t.Errorf("P902: %s: %d left", x.name, n)
		}
	}
}

// P902: where there are eight, there may still be appended, shown and built; none of these makes one.
func TestFull(t *testing.T) {
	y := newPair(t)
	for i := range 8 {
		name := "abcdefgh"[i : i+1]
		y.do(put(name, fmt.Sprint(".byte s", name, "\n")))
		y.do(define("s"+name, i))
	}
	for _, x := range []struct {
		r    api.Request
		want api.Errno
	}{{more("a", ".byte 9\n"), api.OK}, {more("i", ""), api.Missing}, {show("i"), api.Missing}, {show("h"), api.OK}, {build, api.OK}, {define("i", 1), api.Limit}, {put("i", ""), api.Limit}} {
		if a := y.do(x.r); a.E != x.want {
			t.Errorf("P902: %v: %v, not %v", x.r, a.E, x.want)
		}
	}
	if got, want := fmt.Sprint(y.do(build).Image), "[0 9 1 2 3 4 5 6 7]"; got != want {
		t.Errorf("P902: %s, not %s", got, want)
	}
}

// P902, W3: names rise byte by byte, in whatever order they came.
func TestRising(t *testing.T) {
	want := []string{"_", "a", "a0", "a_", "aa", "b", "r", "r1a"}
	for turn := range len(want) {
		y := newPair(t)
		for i := range want {
			name := want[(i*3+turn)%len(want)]
			y.do(put(name, ".ascii \""+name+"\"\n"))
			y.do(define(name, i))
		}
		var frags, syms []string
		for _, f := range y.w.Frags() {
			frags = append(frags, f.Name)
		}
		for _, s := range y.w.Syms() {
			syms = append(syms, s.Name)
		}
		if fmt.Sprint(frags) != fmt.Sprint(want) || fmt.Sprint(syms) != fmt.Sprint(want) {
			t.Errorf("P902: %q, %q", frags, syms)
		}
		if got := string(y.do(build).Image); got != strings.Join(want, "") {
			t.Errorf("P902: the fragments are built in the order %q", got)
		}
	}
}

// P902, T2: each build tells of what is there at its moment.
func TestBuilds(t *testing.T) {
	y := newPair(t)
	is := func(want string) {
		t.Helper()
		a := y.do(build)
		if got := fmt.Sprintf("%v %x %v", a.E, a.Image, a.Diags); got != want {
			t.Errorf("P902: %s, not %s", got, want)
		}
	}
	is("ok  []")
	y.do(define("n", 1))
	is("ok  []")
	y.do(put("m", ".half n\nx: b y\n"))
	is("errors  [{m 2 name}]")
	y.do(put("m", ".byte n\nx: b y\n"))
	is("errors  [{m 2 odd}]")
	y.do(put("l", "y: se_blr\n"))
	is("errors  [{m 2 odd}]")
	y.do(put("l", "y: se_blr\n.byte 0\n"))
	is("ok 00040001e8fe []")
	is("ok 00040001e8fe []")
	y.do(more("m", "bad one\n"))
	y.do(more("l", "bad one"))
	is("errors  [{l 3 line} {m 3 line}]")
	y.do(put("m", ".byte n\nx: b y\n"))
	y.do(put("l", "y: se_blr\n.byte 0\n"))
	is("ok 00040001e8fe []")
	y.do(put("k", ".space 300\n"))
	is("ok " + strings.Repeat("00", 300) + "00040001e8fe []")
	y.do(put("l0", ".space 300\n"))
	is("ok " + strings.Repeat("00", 300) + "000400" + strings.Repeat("00", 300) + "0179fffed0 []")
	y.do(put("k", strings.Repeat(".space 1000\n", 4)))
	is("errors  [{ 0 large}]")
	y.do(del("k"))
	y.do(del("l0"))
	y.do(define("n", 256))
	is("errors  [{m 1 range}]")
	y.do(define("y", 1))
	is("errors  [{l 1 twice}]")
	y.do(del("l"))
	y.do(del("m"))
	is("ok  []")
}

// P902, P4: what a request is answered has no field that its kind does not name.
func TestBeside(t *testing.T) {
	w := work.New()
	for _, r := range []api.Request{put("a", "b x"), define("n", 5), put("b", "x: .byte n, 0\n"), more("b", "# more\n")} {
		if got := told(w.Do(r)); got != told(api.Response{}) {
			t.Errorf("P4: %v: %s", r, got)
		}
	}
	if got := told(w.Do(show("a"))); got != told(api.Response{Text: "b x"}) {
		t.Errorf("P4: %s", got)
	}
	if got := told(w.Do(build)); got != told(api.Response{Image: []byte{0xe8, 1, 5, 0}}) {
		t.Errorf("P4: %s", got)
	}
	for _, r := range []api.Request{undef("n"), del("b")} {
		if got := told(w.Do(r)); got != told(api.Response{}) {
			t.Errorf("P4: %v: %s", r, got)
		}
	}
	if got := told(w.Do(build)); got != told(api.Response{E: api.Errors, Diags: []api.Diag{{Frag: "a", Line: 1, E: api.Name}}}) {
		t.Errorf("P4: %s", got)
	}
	for _, r := range []api.Request{{}, {Kind: 4, Name: "a", Value: 1}, {Kind: 7, Name: "a"}, show("b"), more("b", "x"), del("b"), undef("n"), more("a", strings.Repeat("x", 600))} {
		a := w.Do(r)
		if got := told(a); a.E == api.OK || got != told(api.Response{E: a.E}) {
			t.Errorf("P4: %.80q: %s", fmt.Sprint(r), got)
		}
	}
}

func ExampleWork_Do() {
	w := work.New()
	w.Do(api.Request{Kind: api.RPut, Name: "main", Text: "b end\n"})
	w.Do(api.Request{Kind: api.RPut, Name: "rest", Text: ".byte n, 2\n"})
	fmt.Println(w.Do(api.Request{Kind: api.RBuild}))
	w.Do(api.Request{Kind: api.RAppend, Name: "rest", Text: "end: se_blr\n"})
	w.Do(api.Request{Kind: api.RDefine, Name: "n", Value: 1})
	fmt.Println(w.Do(api.Request{Kind: api.RBuild}))
	fmt.Println(w.Do(api.Request{Kind: api.RDel, Name: "none"}).E)
	fmt.Println(w.Do(api.Request{}).E)
	// Output:
	// {errors  [] [{main 1 name} {rest 1 name}]}
	// {ok  [232 2 1 2 0 4] []}
	// missing
	// frame
}
