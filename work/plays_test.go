package work_test

import (
	"fmt"
	"math/rand"
	"strings"
	"testing"

	"letterpress/api"
)

// P901, P902: long rows of requests of every kind, some of them wrong ones, with Frags and Syms behind each.
func TestPlays(t *testing.T) {
	d := rand.New(rand.NewSource(91))
	seen := map[string]int{}
	for range 500 {
		a := newAuthor(d)
		y := newPair(t)
		for range 150 {
			r := a.request()
			got := y.do(r)
			seen[fmt.Sprint(r.Kind, " ", got.E)]++
			if r.Kind == api.RBuild && len(got.Image) > 0 {
				seen["image"]++
			}
			if r.Kind == api.RShow && got.E == api.OK && got.Text == "" {
				seen["empty"]++
			}
		}
	}
	for _, kind := range []string{
		"1 ok", "1 limit", "1 frame", "2 ok", "2 missing", "2 frame", "3 ok", "3 missing", "3 limit", "3 frame", "4 ok", "4 missing", "4 frame",
		"5 ok", "5 limit", "5 frame", "6 ok", "6 missing", "6 frame", "7 ok", "7 errors", "7 frame", "-1 frame", "0 frame", "8 frame", "image", "empty",
	} {
		if seen[kind] < 50 {
			t.Errorf("%s: %d", kind, seen[kind])
		}
	}
}

// P901: requests whose fields are put together each with each.
func TestAllFields(t *testing.T) {
	texts := []string{"", "x", strings.Repeat("x", 600), strings.Repeat("x", 601)}
	for _, name := range []string{"", "a", "r1", "twelve_bytes", "thirteen_byte"} {
		for _, text := range texts {
			for _, value := range []int{0, 1, -1, 1 << 40, -1 << 40, 1<<40 + 1, -1<<40 - 1} {
				for kind := -2; kind < 10; kind++ {
					y := newPair(t)
					for range 2 {
						y.do(api.Request{Kind: kind, Name: name, Text: text, Value: value})
					}
				}
			}
		}
	}
}

// P902: all rows of four out of these requests, where there is nothing ahead and where there are seven of each.
func TestAllShortPlays(t *testing.T) {
	const length = 4
	requests := []api.Request{
		put("e", "b e"), put("e_", "e: .byte 1\n"), put("e", ""), del("e"), del("e_"), more("e", ", 2"), more("e_", strings.Repeat("#\n", 295)), show("e"), show("e_"),
		define("e", 1), define("e_", 2), undef("e"), undef("e_"), build,
	}
	rows := 1
	for range length {
		rows *= len(requests)
	}
	for _, full := range []bool{false, true} {
		for row := range rows {
			y := newPair(t)
			if full {
				for i, name := range []string{"a", "f", "d", "e__", "d_", "_e", "ee"} {
					y.p.do(put(name, "#"))
					y.w.Do(put(name, "#"))
					y.p.do(define(name, i))
					y.w.Do(define(name, i))
				}
			}
			for n, i := row, 0; i < length; n, i = n/len(requests), i+1 {
				y.do(requests[n%len(requests)])
			}
		}
	}
}

// P902: sources as large as they may be: eight fragments of 600 bytes, whose builds tell what there is to tell.
func TestFullSources(t *testing.T) {
	long := func(s string) string { return strings.Repeat(s, 600/len(s)) }
	good := []string{long(".byte sa\n"), long("#"), long("\n"), long(".space 7\n"), ".byte 1" + strings.Repeat("-sa", 197), long("se_blr\n"), long(".long sa+sb\n")}
	bad := []string{long("b z\n"), long("!\n"), long("sa:\n"), long("\x00"), long("x x\n"), long("(")}
	d := rand.New(rand.NewSource(92))
	y := newPair(t)
	for i := range 8 {
		y.do(define("s"+"abcdefgh"[i:i+1], i))
	}
	seen := map[string]int{}
	for i := range 300 {
		text := pick(d, good...)
		if i%40 >= 30 {
			text = pick(d, bad...)
		}
		y.do(put("abcdefgh"[d.Intn(8):][:1], text))
		got := y.do(build)
		seen[got.E.Error()]++
		if len(got.Diags) > 600 {
			seen["many"]++
		}
		if len(got.Image) > 1000 {
			seen["long"]++
		}
	}
	for _, kind := range []string{"errors", "ok", "many", "long"} {
		if seen[kind] < 15 {
			t.Errorf("%s: %d", kind, seen[kind])
		}
	}
}

// P1, P901, P902: whatever else there is: of each byte of moves a request.
func FuzzPlays(f *testing.F) {
	for _, s := range []string{"", "b x", "x: .byte y\n", "x y", ".equ x, y\n.align x"} {
		f.Add(s, "x: se_blr", "x", "f", 1, []byte{1, 0x11, 5, 7, 3, 0x13, 4, 7, 2, 6, 7})
	}
	f.Fuzz(func(t *testing.T, one, two, name, other string, value int, moves []byte) {
		y := newPair(t)
		for i, c := range moves[:min(len(moves), 40)] {
			r := api.Request{Kind: int(c & 15)}
			if r.Kind != api.RBuild || c == 0xf7 {
				r.Name = []string{name, other, "a", fmt.Sprint("n", i)}[c>>4&3]
			}
			if r.Kind == api.RPut || r.Kind == api.RAppend || c == 0xf4 {
				r.Text = []string{one, two}[c>>6&1]
			}
			if r.Kind == api.RDefine || c == 0xf6 {
				r.Value = value + i
			}
			y.do(r)
		}
	})
}
