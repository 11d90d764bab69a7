package txn_test

import (
	"fmt"
	"slices"
	"strings"
	"testing"

	"letterpress/api"
	"letterpress/incr"
	"letterpress/store"
	"letterpress/txn"
	"letterpress/work"
)

func Example() {
	s, b := store.New(100), incr.New()
	txn.Begin(s, b, api.Request{Kind: api.RPut, Name: "main", Text: "se_blr"}).Drop()
	one := txn.Begin(s, b, api.Request{Kind: api.RPut, Name: "main", Text: "se_blr"})
	two := txn.Begin(s, b, api.Request{Kind: api.RPut, Name: "rest", Text: ".byte 7"})
	for range 2 {
		fmt.Println(one.Step())
		fmt.Println(two.Step())
	}
	fmt.Println(two.Tries())
	two.Step() // begins its second try, as d has changed
	fmt.Println(two.Step())
	fmt.Println(two.Tries())
	three := txn.Begin(s, b, api.Request{Kind: api.RBuild})
	for {
		d, is := three.Step()
		if is {
			fmt.Println(d)
			break
		}
	}
	names, _ := s.Read("d", s.Now())
	fmt.Printf("%q\n", txn.Parts(names))
	// Output:
	// {{ok  [] []} 0 false} false
	// {{ok  [] []} 0 false} false
	// {{ok  [] []} 1 true} true
	// {{ok  [] []} 0 false} false
	// 1
	// {{ok  [] []} 2 true} true
	// 2
	// {{ok  [0 4 7] []} 2 false}
	// ["main" "rest"]
}

// P1001: words, joined; there and back.
func TestJoin(t *testing.T) {
	for _, x := range []struct {
		l    []string
		want string
	}{
		{nil, ""}, {[]string{}, ""}, {[]string{"a"}, "a\n"}, {[]string{"a", "b"}, "a\nb\n"}, {[]string{"b", "a", "b"}, "b\na\nb\n"},
		{[]string{"twelve_bytes", "_", "r1a", "r"}, "twelve_bytes\n_\nr1a\nr\n"}, {[]string{""}, "\n"}, {[]string{"", "a", "", ""}, "\na\n\n\n"},
	} {
		if got := txn.Join(x.l); got != x.want {
			t.Errorf("P1001: %q: %q", x.l, got)
		}
		if got := txn.Parts(x.want); !slices.Equal(got, x.l) {
			t.Errorf("P1001: %q: %q", x.want, got)
		}
	}
}

// P1001: of any text, what stands ahead of each line feed: not what is behind the last.
func TestParts(t *testing.T) {
	for _, x := range []struct {
		s    string
		want []string
	}{
		{"", nil}, {"a", nil}, {"no line feed", nil}, {"\r", nil}, {"\n", []string{""}}, {"\n\n\n", []string{"", "", ""}},
		{"a\nb", []string{"a"}}, {"\nb", []string{""}}, {"a\nb\nc", []string{"a", "b"}}, {"a\n\nb\n\n", []string{"a", "", "b", ""}}, {"\na", []string{""}},
		{"a b\n c \n", []string{"a b", " c "}}, {"\r\n\x00\n\xff\n", []string{"\r", "\x00", "\xff"}}, {"a\u2028b\v\f\n", []string{"a\u2028b\v\f"}}, {"é\n\n", []string{"é", ""}},
	} {
		if got := txn.Parts(x.s); !slices.Equal(got, x.want) {
			t.Errorf("P1001: %q: %q, not %q", x.s, got, x.want)
		}
	}
	const n = 1 << 20
	if got := txn.Parts(strings.Repeat("\n", n) + "x"); len(got) != n {
		t.Errorf("P1001: %d of %d", len(got), n)
	}
	if got := txn.Parts(strings.Repeat("x", n) + "\n"); len(got) != 1 || len(got[0]) != n {
		t.Errorf("P1001: %d of one", len(got))
	}
}

// P1002, P1001: one store, request by request, without others between: what each is answered behind how many Steps, and what the store has then.
func TestAlone(t *testing.T) {
	y := newDesk(t, 100)
	w := work.New()
	ok, full := api.Response{}, strings.Repeat("x", 600)
	is := func(e api.Errno) api.Response { return api.Response{E: e} }
	diag := func(l ...api.Diag) api.Response { return api.Response{E: api.Errors, Diags: l} }
	for i, x := range []struct {
		r     api.Request
		want  api.Response
		steps int
		stamp int
		wrote bool
		held  string
	}{
		{build, ok, 3, 0, false, ``},
		{show("a"), is(api.Missing), 2, 0, false, ``},
		{more("a", "x"), is(api.Missing), 2, 0, false, ``},
		{del("a"), is(api.Missing), 2, 0, false, ``},
		{undef("a"), is(api.Missing), 2, 0, false, ``},
		{put("b", "l: b l\n"), ok, 2, 1, true, `d "b\n", fb "l: b l\n", `},
		{put("a", ".byte n"), ok, 2, 2, true, `d "a\nb\n", fa ".byte n", fb "l: b l\n", `},
		{build, diag(api.Diag{Frag: "a", Line: 1, E: api.Name}, api.Diag{Frag: "b", Line: 1, E: api.Odd}), 5, 2, false, `d "a\nb\n", fa ".byte n", fb "l: b l\n", `},
		{define("n", -3), ok, 2, 3, true, `d "a\nb\n", e "n\n", fa ".byte n", fb "l: b l\n", sn "-3", `},
		{build, diag(api.Diag{Frag: "b", Line: 1, E: api.Odd}), 6, 3, false, `d "a\nb\n", e "n\n", fa ".byte n", fb "l: b l\n", sn "-3", `},
		{more("a", ", 1"), ok, 3, 4, true, `d "a\nb\n", e "n\n", fa ".byte n, 1", fb "l: b l\n", sn "-3", `},
		{build, api.Response{Image: []byte{253, 1, 232, 0}}, 6, 4, false, `d "a\nb\n", e "n\n", fa ".byte n, 1", fb "l: b l\n", sn "-3", `},
		{show("a"), api.Response{Text: ".byte n, 1"}, 2, 4, false, `d "a\nb\n", e "n\n", fa ".byte n, 1", fb "l: b l\n", sn "-3", `},
		{more("a", full), is(api.Limit), 3, 4, false, `d "a\nb\n", e "n\n", fa ".byte n, 1", fb "l: b l\n", sn "-3", `},
		{more("a", ""), ok, 3, 5, true, `d "a\nb\n", e "n\n", fa ".byte n, 1", fb "l: b l\n", sn "-3", `},
		{put("a", ".byte n, 1"), ok, 2, 6, true, `d "a\nb\n", e "n\n", fa ".byte n, 1", fb "l: b l\n", sn "-3", `},
		{define("n", -3), ok, 2, 7, true, `d "a\nb\n", e "n\n", fa ".byte n, 1", fb "l: b l\n", sn "-3", `},
		{define("n", 1<<40), ok, 2, 8, true, `d "a\nb\n", e "n\n", fa ".byte n, 1", fb "l: b l\n", sn "1099511627776", `},
		{define("n", -1<<40), ok, 2, 9, true, `d "a\nb\n", e "n\n", fa ".byte n, 1", fb "l: b l\n", sn "-1099511627776", `},
		{define("a", 0), ok, 2, 10, true, `d "a\nb\n", e "a\nn\n", fa ".byte n, 1", sa "0", fb "l: b l\n", sn "-1099511627776", `},
		{build, diag(api.Diag{Frag: "a", Line: 1, E: api.Range}), 7, 10, false, `d "a\nb\n", e "a\nn\n", fa ".byte n, 1", sa "0", fb "l: b l\n", sn "-1099511627776", `},
		{del("b"), ok, 2, 11, true, `d "a\n", e "a\nn\n", fa ".byte n, 1", sa "0", sn "-1099511627776", `},
		{show("b"), is(api.Missing), 2, 11, false, `d "a\n", e "a\nn\n", fa ".byte n, 1", sa "0", sn "-1099511627776", `},
		{more("b", ""), is(api.Missing), 2, 11, false, `d "a\n", e "a\nn\n", fa ".byte n, 1", sa "0", sn "-1099511627776", `},
		{undef("n"), ok, 2, 12, true, `d "a\n", e "a\n", fa ".byte n, 1", sa "0", `},
		{undef("n"), is(api.Missing), 2, 12, false, `d "a\n", e "a\n", fa ".byte n, 1", sa "0", `},
		{undef("a"), ok, 2, 13, true, `d "a\n", e "", fa ".byte n, 1", `},
		{put("a", ""), ok, 2, 14, true, `d "a\n", e "", fa "", `},
		{show("a"), ok, 2, 14, false, `d "a\n", e "", fa "", `},
		{build, ok, 4, 14, false, `d "a\n", e "", fa "", `},
		{more("a", full), ok, 3, 15, true, fmt.Sprintf(`d "a\n", e "", fa %q, `, full)},
		{more("a", ""), ok, 3, 16, true, fmt.Sprintf(`d "a\n", e "", fa %q, `, full)},
		{more("a", "x"), is(api.Limit), 3, 16, false, fmt.Sprintf(`d "a\n", e "", fa %q, `, full)},
		{del("a"), ok, 2, 17, true, `d "", e "", `},
		{build, ok, 3, 17, false, `d "", e "", `},
	} {
		d, n := y.whole(x.r)
		want := txn.Done{R: x.want, Stamp: x.stamp, Wrote: x.wrote}
		if told(d, true) != told(want, true) || n != x.steps {
			t.Errorf("P1002: %d: %.60v: %s in %d, not %s in %d", i, x.r, told(d, true), n, told(want, true), x.steps)
		}
		if got := told(txn.Done{R: w.Do(x.r)}, true); got != told(txn.Done{R: x.want}, true) {
			t.Errorf("P1002: %d: %.60v: work answers %s", i, x.r, got)
		}
		if got := held(y.s, y.s.Now(), []string{"a", "b", "n"}); got != x.held {
			t.Errorf("P1001: %d: %.60v: %s, not %s", i, x.r, got, x.held)
		}
		if got, want := y.s.Count(), strings.Count(x.held, `", `); got != want {
			t.Errorf("P1002: %d: %.60v: not cleaned, %d and not %d", i, x.r, got, want)
		}
	}
}

// P1002, P1001: values as they are written, and as they come into a build.
func TestValues(t *testing.T) {
	y := newDesk(t, 100)
	y.whole(put("m", ".long v >> 16, v & 0xffff"))
	for _, x := range []struct {
		value  int
		digits string
		image  string
	}{
		{0, "0", "0000000000000000"}, {1, "1", "0000000000000001"}, {-1, "-1", "ffffffff0000ffff"}, {10, "10", "000000000000000a"}, {-65536, "-65536", "ffffffff00000000"}, {1 << 40, "1099511627776", "0100000000000000"}, {1<<40 - 1, "1099511627775", "00ffffff0000ffff"}, {-1 << 40, "-1099511627776", "ff00000000000000"},
	} {
		y.whole(define("v", x.value))
		if got, is := y.s.Read("sv", y.s.Now()); got != x.digits || !is {
			t.Errorf("P1001: %d: %q", x.value, got)
		}
		if d, _ := y.whole(build); fmt.Sprintf("%x", d.R.Image) != x.image {
			t.Errorf("P1002: %d: %v, not %s", x.value, d.R, x.image)
		}
	}
	for _, value := range []int{1<<40 + 1, -1<<40 - 1} {
		if d, _ := y.whole(define("v", value)); told(d, true) != told(txn.Done{R: api.Response{E: api.BadFrame}}, true) {
			t.Errorf("P1002: %d: %v", value, d)
		}
	}
}

// P1002: a request that may not be is answered by its first Step, and does nothing else, whatever is in the store.
func TestBadFrame(t *testing.T) {
	for _, r := range []api.Request{
		{}, {Kind: -1, Name: "a"}, {Kind: 8}, {Kind: 8, Name: "a"}, put("", "x"), put("r1", "x"), put("a", strings.Repeat("x", 601)), put("thirteen_byte", ""), {Kind: api.RPut, Name: "a", Value: 1},
		del(""), {Kind: api.RDel, Name: "a", Text: "x"}, more("a", strings.Repeat("x", 601)), more("A", ""), show("a\n"), {Kind: api.RShow, Name: "a", Value: 1},
		define("a", 1<<40+1), define("a", -1<<40-1), {Kind: api.RDefine, Name: "a", Text: "x"}, undef("1"), {Kind: api.RUndef, Name: "a", Text: "x"}, {Kind: api.RBuild, Name: "a"}, {Kind: api.RBuild, Text: "x"}, {Kind: api.RBuild, Value: 1},
	} {
		y := newDesk(t, 100)
		y.whole(put("a", "one"))
		y.whole(define("a", 1))
		y.commit(store.Write{Key: "fa", Value: "two"}, store.Write{Key: "gone", Gone: true})
		was, count, now := held(y.s, 3, []string{"a"}), y.s.Count(), y.s.Now()
		x := y.begin(r)
		if d, is := x.step(); !is || told(d, is) != told(txn.Done{R: api.Response{E: api.BadFrame}}, true) || x.x.Tries() != 0 {
			t.Errorf("P1002: %v: %v, %v, %d tries", r, d, is, x.x.Tries())
		}
		if y.s.Count() != count || y.s.Now() != now || held(y.s, 3, []string{"a"}) != was {
			t.Errorf("P1002: %v: the store was touched", r)
		}
		for range 3 {
			if d, is := x.step(); is || told(d, is) != told(txn.Done{}, false) {
				t.Errorf("P1002: %v: told again: %v", r, d)
			}
		}
		x.drop()
		// Were a stamp pinned, the older version of fa would stay.
		if y.clean(); y.s.Count() != 4 {
			t.Errorf("P1002: %v: Count %d", r, y.s.Count())
		}
		x = y.begin(r)
		x.drop()
		if d, is := x.step(); is {
			t.Errorf("P1003: %v: %v", r, d)
		}
	}
}

// filled is a desk with two fragments and two symbols: the stamp is 4.
func filled(t *testing.T, limit int) *desk {
	y := newDesk(t, limit)
	y.whole(put("a", ".byte n"+strings.Repeat("#", 593)))
	y.whole(put("b", ".byte m\n"))
	y.whole(define("m", 2))
	y.whole(define("n", 1))
	return y
}

// take takes from a try that is under way what it has pinned of a key, so that a later read does not find it.
func (y *desk) take(key string) {
	at := y.s.Now()
	y.commit(store.Write{Key: key, Gone: true})
	y.both("unpin", func(s *store.Store) int { s.Unpin(at); return 0 })
	y.clean()
}

// P1002: which key is read by which Step: what is taken away behind a Step is lost for those behind it, and not for those ahead.
func TestReads(t *testing.T) {
	for _, x := range []struct {
		r    api.Request
		keys []string // in their order
		want api.Response
	}{
		{build, []string{"d", "e", "fa", "fb", "sm", "sn"}, api.Response{Image: []byte{1, 2}}},
		{show("b"), []string{"fb"}, api.Response{Text: ".byte m\n"}},
		{show("c"), []string{"fc"}, api.Response{E: api.Missing}},
		{more("a", "x"), []string{"d", "fa"}, api.Response{E: api.Limit}},
		{more("c", "x"), []string{"d"}, api.Response{E: api.Missing}},
		{del("c"), []string{"d"}, api.Response{E: api.Missing}},
		{undef("a"), []string{"e"}, api.Response{E: api.Missing}},
	} {
		for _, key := range []string{"d", "e", "fa", "fb", "fc", "sa", "sm", "sn"} {
			for n := 1; n <= len(x.keys); n++ {
				y := filled(t, 100)
				z := y.begin(x.r)
				for range n {
					z.step()
				}
				y.take(key)
				d, is := txn.Done{}, false
				for range len(x.keys) + 1 - n {
					d, is = z.step()
				}
				lost := slices.Contains(x.keys[n:], key)
				want := txn.Done{R: x.want, Stamp: 4}
				if got := told(d, is) != told(want, true); got != lost {
					t.Errorf("P1002: %.30v: %s, taken behind Step %d: %s", x.r, key, n, told(d, is))
				}
			}
		}
	}
}

// P1002: of what writes: each key that was read, and no other one, has the try fail if it is another one by then; also one that is as it was, but written anew, or was changed and changed back.
func TestStale(t *testing.T) {
	for _, x := range []struct {
		r    api.Request
		keys []string
	}{
		{put("b", "x"), []string{"d"}}, {put("c", "x"), []string{"d"}}, {del("b"), []string{"d"}}, {more("b", "x"), []string{"d", "fb"}},
		{define("m", 5), []string{"e"}}, {define("k", 5), []string{"e"}}, {undef("m"), []string{"e"}},
	} {
		for _, key := range []string{"d", "e", "fa", "fb", "fc", "sk", "sm", "sn", "x"} {
			for n := range len(x.keys) + 1 {
				y := filled(t, 100)
				z := y.begin(x.r)
				for range n {
					z.step()
				}
				value, is := y.s.Read(key, y.s.Now())
				y.commit(store.Write{Key: key, Value: "c\n"})
				y.commit(store.Write{Key: key, Value: value, Gone: !is})
				for range len(x.keys) - n {
					z.step()
				}
				d, over := z.step()
				fails := n > 0 && slices.Contains(x.keys, key)
				if over == fails || z.x.Tries() != 1 {
					t.Errorf("P1002: %.30v: %s, changed behind Step %d: %s", x.r, key, n, told(d, over))
				}
				if over && told(d, true) != told(txn.Done{Stamp: 7, Wrote: true}, true) || !over && told(d, over) != told(txn.Done{}, false) {
					t.Errorf("P1002, P4: %.30v: %s, changed behind Step %d: %s", x.r, key, n, told(d, over))
				}
				for range len(x.keys) + 1 {
					if !over {
						d, over = z.step()
					}
				}
				if !over || !d.Wrote || d.Stamp != 7 {
					t.Errorf("P1002: %.30v: %s, changed behind Step %d: the next try: %s", x.r, key, n, told(d, over))
				}
			}
		}
	}
}

// P1002, P1003: a key that was read is changed in the first tries: three may fail, not more, and then nothing was done.
func TestTries(t *testing.T) {
	for _, x := range []struct {
		r   api.Request
		key string
	}{{put("b", "x"), "d"}, {put("c", "x"), "d"}, {del("b"), "d"}, {more("b", "x"), "fb"}, {more("b", "x"), "d"}, {define("m", 5), "e"}, {define("k", 5), "e"}, {undef("m"), "e"}} {
		for fails := range 5 {
			y := filled(t, 100)
			value, _ := y.s.Read(x.key, y.s.Now())
			z := y.begin(x.r)
			if z.x.Tries() != 0 {
				t.Errorf("P1003: %v: %d tries ahead of the first Step", x.r, z.x.Tries())
			}
			steps := 1
			if x.r.Kind == api.RAppend {
				steps = 2
			}
			d, is := txn.Done{}, false
			for try := 1; !is; try++ {
				for range steps {
					if d, is := z.step(); is || z.x.Tries() != try {
						t.Fatalf("P1002, P1003: %v: %v, %v, %d tries, not %d", x.r, d, is, z.x.Tries(), try)
					}
				}
				if try <= fails {
					y.commit(store.Write{Key: x.key, Value: value})
				}
				was := held(y.s, y.s.Now(), y.names)
				if d, is = z.step(); z.x.Tries() != try || is != (try > fails || try == 3) {
					t.Fatalf("P1002, P1003: %v: %v, %v, try %d of %d", x.r, d, is, z.x.Tries(), fails)
				}
				if got := held(y.s, y.s.Now(), y.names); try <= fails && got != was {
					t.Errorf("P1002: %v: %s, not %s", x.r, got, was)
				}
			}
			want := txn.Done{Stamp: 5 + fails, Wrote: true}
			if fails >= 3 {
				want = txn.Done{R: api.Response{E: api.Busy}}
			}
			if told(d, is) != told(want, true) || z.x.Tries() != min(fails+1, 3) {
				t.Errorf("P1002: %v: %d fail: %s, %d tries", x.r, fails, told(d, is), z.x.Tries())
			}
			for range 4 {
				if d, is := z.step(); is || told(d, is) != told(txn.Done{}, false) || z.x.Tries() != min(fails+1, 3) {
					t.Errorf("P1002: %v: told again: %v, %d tries", x.r, d, z.x.Tries())
				}
			}
		}
	}
}

// P1002: a try that fails may be followed by one that is answered otherwise, as others have left it.
func TestOtherwise(t *testing.T) {
	y := filled(t, 100)
	first, two, three, four := y.begin(more("b", "x")), y.begin(del("b")), y.begin(put("b", "mine")), y.begin(undef("m"))
	for _, x := range []*one{first, two, three, four} {
		x.step()
	}
	first.step()
	y.whole(del("b"))
	y.whole(undef("m"))
	for _, x := range []*one{first, two, four, three} {
		if d, is := x.step(); is {
			t.Errorf("P1002: %v: %v", x.p.r, d)
		}
		x.step()
		d, is := x.step()
		want := txn.Done{R: api.Response{E: api.Missing}, Stamp: 6}
		if x == three {
			want = txn.Done{Stamp: 7, Wrote: true}
		}
		if told(d, is) != told(want, true) {
			t.Errorf("P1002: %v: %s", x.p.r, told(d, is))
		}
	}
	if got, want := held(y.s, 7, []string{"b", "m"}), `d "a\nb\n", e "n\n", fb "mine", `; got != want {
		t.Errorf("P1002: %s, not %s", got, want)
	}
}

// P1002: what only reads is answered as of its first Step, with that stamp, and by its first try, whatever has come since. So are errors.
func TestOnlyReads(t *testing.T) {
	for _, x := range []struct {
		r     api.Request
		want  api.Response
		steps int
	}{
		{build, api.Response{Image: []byte{1, 2}}, 7}, {show("b"), api.Response{Text: ".byte m\n"}, 2}, {show("c"), api.Response{E: api.Missing}, 2}, {del("c"), api.Response{E: api.Missing}, 2}, {more("c", ""), api.Response{E: api.Missing}, 2},
		{undef("c"), api.Response{E: api.Missing}, 2}, {more("a", "x"), api.Response{E: api.Limit}, 3},
	} {
		y := filled(t, 1000)
		z := y.begin(x.r)
		for n := 1; n <= x.steps; n++ {
			d, is := z.step()
			if is != (n == x.steps) || is && told(d, is) != told(txn.Done{R: x.want, Stamp: 4}, true) || z.x.Tries() != 1 {
				t.Errorf("P1002: %.30v: Step %d: %s, %d tries", x.r, n, told(d, is), z.x.Tries())
			}
			for i, r := range []api.Request{put("c", "!"), put("a", "!"), del("b"), define("m", 9), undef("n"), define("c", n), more("a", "!"), put("b", "!"), define("n", 7)} {
				if d, _ := y.whole(r); !d.Wrote {
					t.Errorf("P1002: %d, %v: %v", i, r, d)
				}
			}
		}
		if got := fmt.Sprint(y.s.Count(), " ", y.s.Now()); got != fmt.Sprint(8, " ", 4+9*x.steps) {
			t.Errorf("P1002: %.30v: Count and stamp %s", x.r, got)
		}
	}
}

// P1002: a ninth fragment, a ninth symbol; of what was read.
func TestLimits(t *testing.T) {
	y := newDesk(t, 100)
	for i, name := range []string{"h", "a", "g", "b", "f", "c", "e"} {
		y.whole(put(name, "#"))
		y.whole(define(name, i))
	}
	eighth, ninth := y.begin(put("d", "# eighth")), y.begin(put("i", "# ninth"))
	eighthSym, ninthSym := y.begin(define("d", 8)), y.begin(define("i", 9))
	for range 2 {
		eighth.step()
		ninth.step()
		eighthSym.step()
		ninthSym.step()
	}
	for _, x := range []*one{ninth, ninthSym} {
		x.step()
		if d, is := x.step(); told(d, is) != told(txn.Done{R: api.Response{E: api.Limit}, Stamp: 16}, true) || x.x.Tries() != 2 {
			t.Errorf("P1002: %v: %v, %v", x.p.r, d, is)
		}
	}
	for _, key := range []string{"d", "e"} {
		if got, _ := y.s.Read(key, 16); got != "a\nb\nc\nd\ne\nf\ng\nh\n" {
			t.Errorf("P1001: %s: %q", key, got)
		}
	}
	for _, x := range []struct {
		r    api.Request
		want api.Errno
	}{{put("h", "x"), api.OK}, {define("a", 5), api.OK}, {more("h", "y"), api.OK}, {more("i", "y"), api.Missing}, {put("i", ""), api.Limit}, {del("a"), api.OK}, {put("i", ""), api.OK}, {put("a", ""), api.Limit}, {define("_", 0), api.Limit}, {undef("h"), api.OK}, {define("_", 0), api.OK}, {build, api.Errors}} {
		if d, _ := y.whole(x.r); d.R.E != x.want {
			t.Errorf("P1002: %v: %v", x.r, d)
		}
	}
	if got, want := held(y.s, y.s.Now(), nil), `d "b\nc\nd\ne\nf\ng\nh\ni\n", e "_\na\nb\nc\nd\ne\nf\ng\n", `; got != want {
		t.Errorf("P1001, W3: %s, not %s", got, want)
	}
}

// P1002, P5: a store with little room: Full, and nothing is done; what only reads is answered.
func TestFull(t *testing.T) {
	names := []string{"a", "b", "c", "m", "n"}
	for limit := range 12 {
		y := newDesk(t, limit)
		for _, x := range []struct {
			r    api.Request
			list string
			room int // versions that it makes where its name is there, and where it is new
			anew int
		}{
			{put("a", "#"), "d", 1, 2}, {put("a", "##"), "d", 1, 2}, {more("a", "x"), "d", 1, 0}, {define("n", 1), "e", 1, 2}, {define("n", 2), "e", 1, 2}, {define("m", 2), "e", 1, 2},
			{put("b", ""), "d", 1, 2}, {undef("n"), "e", 2, 0}, {del("a"), "d", 2, 0}, {define("n", 3), "e", 1, 2}, {put("c", "#"), "d", 1, 2}, {put("b", "x"), "d", 1, 2}, {undef("m"), "e", 2, 0},
		} {
			was, now, count := held(y.s, y.s.Now(), names), y.s.Now(), y.s.Count()
			room := x.anew
			if list, _ := y.s.Read(x.list, now); slices.Contains(txn.Parts(list), x.r.Name) {
				room = x.room
			}
			d, _ := y.whole(x.r)
			want := txn.Done{Stamp: now + 1, Wrote: true}
			switch {
			case room == 0:
				want = txn.Done{R: api.Response{E: api.Missing}, Stamp: now}
			case count+room > limit:
				want = txn.Done{R: api.Response{E: api.Full}}
			}
			if told(d, true) != told(want, true) {
				t.Errorf("P1002: limit %d: %v: %v, not %v", limit, x.r, d, want)
			}
			if got := held(y.s, y.s.Now(), names); !want.Wrote && (got != was || y.s.Now() != now || y.s.Count() != count) {
				t.Errorf("P5: limit %d: %v: %s, not %s", limit, x.r, got, was)
			}
			for _, r := range []api.Request{show("a"), show("z"), build, del("z"), undef("z"), more("z", "")} {
				if d, _ := y.whole(r); d.R.E == api.Full || d.Wrote || d.Stamp != y.s.Now() {
					t.Errorf("P1002: limit %d: %v: %v", limit, r, d)
				}
			}
		}
	}
}

// P1002: whether there is room is asked when it is written, behind whether it is stale: and the room that a Clean would give is not there yet.
func TestFullAndStale(t *testing.T) {
	y := newDesk(t, 5)
	y.whole(put("a", "1"))
	x := y.begin(put("b", ""))
	x.step()
	y.whole(put("a", "2"))
	if y.s.Count() != 3 {
		t.Fatalf("P1002: Count %d", y.s.Count())
	}
	y.commit(store.Write{Key: "d", Value: "a\n"}, store.Write{Key: "x"})
	if d, is := x.step(); is {
		t.Errorf("P1002: it was stale: %v", d)
	}
	y.commit(store.Write{Key: "y"})
	x.step()
	if d, is := x.step(); told(d, is) != told(txn.Done{R: api.Response{E: api.Full}}, true) || x.x.Tries() != 2 {
		t.Errorf("P1002: %v, %v", d, is)
	}
	y = newDesk(t, 4)
	y.whole(put("a", "1"))
	y.commit(store.Write{Key: "fa", Value: "2"})
	y.commit(store.Write{Key: "fa", Value: "3"})
	if d, _ := y.whole(put("a", "4")); d.R.E != api.Full || y.s.Count() != 2 {
		t.Errorf("P1002: %v, Count %d", d, y.s.Count())
	}
	if d, _ := y.whole(put("a", "5")); !d.Wrote || y.s.Count() != 2 {
		t.Errorf("P1002: %v, Count %d", d, y.s.Count())
	}
}

// P1003: Drop at each moment: behind any number of Steps. Behind it nothing is told or done, and nothing is pinned.
func TestDrop(t *testing.T) {
	for _, r := range []api.Request{put("b", "x"), put("c", "x"), del("b"), more("b", "x"), show("b"), define("m", 3), define("k", 3), undef("m"), build, {}} {
		for n := range 10 {
			for fails := range 4 {
				y := filled(t, 1000)
				x := y.begin(r)
				for range n {
					x.step()
					if fails > 0 {
						y.commit(store.Write{Key: "d", Value: "a\nb\n"}, store.Write{Key: "e", Value: "m\nn\n"})
					}
				}
				was, now, tries := held(y.s, y.s.Now(), y.names), y.s.Now(), x.x.Tries()
				for range 2 {
					x.drop()
					for range fails + 1 {
						if d, is := x.step(); is || told(d, is) != told(txn.Done{}, false) {
							t.Errorf("P1003: %v dropped behind %d Steps: %v", r, n, d)
						}
					}
				}
				if held(y.s, y.s.Now(), y.names) != was || y.s.Now() != now || x.x.Tries() != tries {
					t.Errorf("P1003: %v dropped behind %d Steps did more", r, n)
				}
				y.commit(store.Write{Key: "fa", Value: "x"})
				y.commit(store.Write{Key: "fa", Value: "y"})
				y.clean()
				if got, want := y.s.Count(), strings.Count(held(y.s, y.s.Now(), []string{"a", "b", "c", "m", "n", "k"}), `", `); got != want {
					t.Errorf("P1003: %v dropped behind %d Steps: Count %d, not %d", r, n, got, want)
				}
			}
		}
	}
}

// P1002, P1003: a Drop does not clean, and takes back no pin but its own.
func TestDropPins(t *testing.T) {
	y := filled(t, 100)
	first, two, other := y.begin(build), y.begin(show("a")), y.begin(put("q", ""))
	for _, x := range []*one{first, two} {
		x.step()
	}
	other.drop()
	y.commit(store.Write{Key: "fa", Value: "x"})
	y.commit(store.Write{Key: "fa", Value: "y"})
	first.drop()
	first.drop()
	y.clean()
	if y.s.Count() != 8 {
		t.Errorf("P1003: Count %d: another's pin was taken", y.s.Count())
	}
	two.drop()
	if y.s.Count() != 8 {
		t.Errorf("P1003: Count %d: cleaned", y.s.Count())
	}
	y.clean()
	if y.s.Count() != 6 {
		t.Errorf("P1003: Count %d: pinned", y.s.Count())
	}
}

// P1002, P1003: of two at one stamp, the one that ended, failed or was dropped takes back its own pin, once.
func TestPins(t *testing.T) {
	for _, end := range []string{"end", "end and drop", "fail", "fail and drop", "drop", "drop ahead", "never stepped"} {
		y := filled(t, 1000)
		stays, x := y.begin(build), y.begin(put("b", "x"))
		stays.step()
		if end == "drop ahead" {
			x.drop()
		}
		if end != "never stepped" {
			x.step()
		}
		switch end {
		case "fail", "fail and drop":
			y.commit(store.Write{Key: "d", Value: "a\nb\n"})
			x.step()
		case "end", "end and drop":
			x.step()
			x.step()
		}
		if strings.HasSuffix(end, "drop") {
			x.drop()
			x.drop()
		}
		y.whole(put("a", "!"))
		y.whole(define("n", 9))
		y.whole(del("b"))
		for stays.p.under {
			if d, is := stays.step(); is && fmt.Sprint(d.R.Image) != "[1 2]" {
				t.Errorf("P1002: %s: what another has pinned is lost: %v", end, d)
			}
		}
		if d, _ := y.whole(put("a", "?")); !d.Wrote {
			t.Error(d)
		}
		y.clean()
		if got, want := y.s.Count(), strings.Count(held(y.s, y.s.Now(), []string{"a", "b", "m", "n"}), `", `); got != want {
			t.Errorf("P1002, P1003: %s: Count %d, not %d", end, got, want)
		}
	}
}

// P1002: a try's end cleans, whatever it comes to.
func TestCleans(t *testing.T) {
	for _, r := range []api.Request{put("b", "x"), put("c", "x"), del("b"), del("c"), more("b", "x"), more("c", "x"), more("a", "x"), show("b"), show("c"), define("m", 3), define("k", 3), undef("m"), undef("k"), build} {
		for _, limit := range []int{12, 1000} {
			y := filled(t, limit)
			for i := range limit - y.s.Count() {
				if i < 6 {
					y.commit(store.Write{Key: "x", Value: fmt.Sprint(i)})
				}
			}
			d, _ := y.whole(r)
			if got, want := y.s.Count(), 1+strings.Count(held(y.s, y.s.Now(), []string{"a", "b", "c", "m", "n", "k"}), `", `); got != want {
				t.Errorf("P1002: %.30v: %v: Count %d, not %d", r, d.R.E, got, want)
			}
		}
	}
	// One that fails cleans too, also ahead of the third.
	y := filled(t, 100)
	x := y.begin(put("c", ""))
	for range 3 {
		x.step()
		y.commit(store.Write{Key: "d", Value: "a\n"})
		y.commit(store.Write{Key: "d", Value: "a\nb\n"})
		if y.s.Count() != 8 {
			t.Errorf("P1002: Count %d", y.s.Count())
		}
		if x.step(); y.s.Count() != 6 {
			t.Errorf("P1002: Count %d", y.s.Count())
		}
	}
}

// P1002: builds alone go through the builder, each once, at its end; and of what was read.
func TestBuilder(t *testing.T) {
	y := filled(t, 100)
	for _, r := range []api.Request{put("b", ".byte m, m\n"), more("b", "# x"), show("a"), define("n", 1), undef("x"), del("c"), {}} {
		if y.whole(r); y.b.Parsed() != 0 || y.b.Held() != 0 {
			t.Errorf("P1002: %v: the builder parsed %d, holds %d", r, y.b.Parsed(), y.b.Held())
		}
	}
	x := y.begin(build)
	for range 6 {
		if x.step(); y.b.Parsed() != 0 || y.b.Held() != 0 {
			t.Errorf("P1002: ahead of its end the builder parsed %d, holds %d", y.b.Parsed(), y.b.Held())
		}
	}
	if d, is := x.step(); fmt.Sprint(d.R.Image) != "[1 2 2]" || !is || y.b.Parsed() != 2 || y.b.Held() != 2 || fmt.Sprint(y.b.Users("m")) != "[b]" {
		t.Errorf("P1002: %v; the builder parsed %d, holds %d", d, y.b.Parsed(), y.b.Held())
	}
	y.whole(put("a", ""))
	y.whole(define("m", 4))
	if d, _ := y.whole(build); fmt.Sprint(d.R.Image) != "[4 4]" || y.b.Parsed() != 3 {
		t.Errorf("P1002: %v; the builder parsed %d", d, y.b.Parsed())
	}
	dropped := y.begin(build)
	for range 6 {
		dropped.step()
	}
	y.whole(del("a"))
	y.whole(build)
	if dropped.drop(); y.b.Held() != 1 {
		t.Errorf("P1003: the builder holds %d", y.b.Held())
	}
}

// P1002: fragments and symbols of names that are like keys, or like one another's.
func TestLikeKeys(t *testing.T) {
	y := newDesk(t, 100)
	names := []string{"d", "e", "f", "s", "fd", "se", "fs", "sf"}
	for i, name := range names {
		y.whole(put(name, fmt.Sprintf(".byte %d, %s\n", i, name)))
		y.whole(define(name, 100+i))
	}
	if d, _ := y.whole(build); fmt.Sprint(d.R.Image) != "[0 100 1 101 2 102 4 104 6 106 3 103 5 105 7 107]" {
		t.Errorf("P1002: %v", d)
	}
	for i, name := range names {
		if d, _ := y.whole(show(name)); d.R.Text != fmt.Sprintf(".byte %d, %s\n", i, name) {
			t.Errorf("P1002: %s: %v", name, d)
		}
	}
	for _, name := range names {
		y.whole(undef(name))
		if d, _ := y.whole(show(name)); d.R.E != api.OK {
			t.Errorf("P1002: %s: %v", name, d)
		}
		y.whole(del(name))
	}
	if got := held(y.s, y.s.Now(), names); got != `d "", e "", ` || y.s.Count() != 2 {
		t.Errorf("P1001: %s", got)
	}
}

// P1003, P1: one that no Begin has made goes no further.
func TestNone(t *testing.T) {
	var x txn.Txn
	x.Drop()
	if d, is := x.Step(); is || told(d, is) != told(txn.Done{}, false) || x.Tries() != 0 {
		t.Errorf("P1: %v", d)
	}
}
