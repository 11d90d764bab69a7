package server_test

import (
	"fmt"
	"math"
	"slices"
	"strings"
	"testing"

	"letterpress/api"
	"letterpress/frame"
	"letterpress/server"
)

func Example() {
	s := server.New(1000)
	one, _ := s.Connect()
	two, _ := s.Connect()
	b := frame.Request(api.Request{Kind: api.RPut, Name: "main", Text: "se_blr"})
	s.Bytes(one, b[:5])
	s.Bytes(one, b[5:])
	s.Bytes(two, append(frame.Request(api.Request{Kind: api.RBuild}), frame.Request(api.Request{Kind: api.RShow, Name: "main"})...))
	fmt.Println(s.Open(), s.Queued(one), s.Queued(two))
	s.Step(two) // the build begins: what it reads is as of now
	for s.Step(one) {
	}
	for s.Step(two) {
	}
	for _, id := range s.Open() {
		fmt.Printf("% x\n", s.Out(id))
	}
	l := s.Records()
	for _, x := range l {
		fmt.Println(x)
	}
	fmt.Println(server.Order(l))
	// Output:
	// [0 1] 1 2
	// 00 00 07 00 00 00 00 00 00 00
	// 00 00 07 00 00 00 00 00 00 00 00 00 0d 00 00 06 73 65 5f 62 6c 72 00 00 00 00
	// {0 2 6 1 true {1 main se_blr 0} {ok  [] []}}
	// {1 3 8 0 false {7   0} {ok  [] []}}
	// {1 3 10 1 false {4 main  0} {ok se_blr [] []}}
	// [1 0 2]
}

// none are numbers that no session has, as long as fewer than 90 were there.
var none = []int{-1, 90, 1 << 20, math.MaxInt, math.MinInt}

// P1201, P1202: of no session, in a new server and in one whose sessions are gone; the document's example.
func TestNoSession(t *testing.T) {
	h := newHall(t, 100)
	for round := range 2 {
		ids := append(slices.Clone(none), 0, 1, 2)
		for _, id := range ids {
			if h.step(id) || h.out(id) != "" || h.s.Queued(id) != 0 || h.drop(id) != api.Missing || h.bytes(id, "") != api.Missing || h.bytes(id, build) != api.Missing {
				t.Errorf("P1202: %d", id)
			}
			// Missing is named ahead of the others.
			if h.bytes(id, strings.Repeat("x", 2001)) != api.Missing || h.bytes(id, "\xff\xff") != api.Missing {
				t.Errorf("P6: %d", id)
			}
		}
		h.same("P1201", h.s.Open(), "[]")
		h.same("P1202", len(h.records()), 0)
		if round == 0 {
			h.connect()
			h.connect()
			h.bytes(1, build+build)
			h.step(1)
			h.drop(0)
			h.drop(1)
		}
	}
	h.connect()
	h.connect()
	ids := append(slices.Clone(none), 0, 1, 4)
	for bit := 2; bit < 64; bit++ { // numbers that have their lowest bits alike
		ids = append(ids, 2^1<<bit, 3^1<<bit)
	}
	for _, id := range ids {
		if h.step(id) || h.out(id) != "" || h.s.Queued(id) != 0 || h.drop(id) != api.Missing || h.bytes(id, build) != api.Missing {
			t.Errorf("P1202: %d, beside two that are open", id)
		}
	}
	// Of all this one call of Bytes and one Step have moved the clock.
	h.bytes(2, build)
	for h.step(2) {
	}
	h.same("P1202", allTold(h.records()), `2: 3 to 6, 0 false: 7 "" "" 0: 0 ""  []`)
}

// P1201: four may be open; a number is given once; Open rises.
func TestConnect(t *testing.T) {
	h := newHall(t, 100)
	for i := range 4 {
		id, e := h.connect()
		h.same("P1201", fmt.Sprint(id, e), fmt.Sprint(i, api.OK))
	}
	for range 3 { // refused ones take no numbers
		id, e := h.connect()
		h.same("P1201", fmt.Sprint(id, e), fmt.Sprint(0, api.Limit))
	}
	for _, x := range []struct {
		drop int
		open string
	}{{1, "[0 2 3 4]"}, {4, "[0 2 3 5]"}, {0, "[2 3 5 6]"}, {3, "[2 5 6 7]"}, {2, "[5 6 7 8]"}} {
		if h.drop(x.drop) != api.OK {
			t.Errorf("P1202: Drop of %d", x.drop)
		}
		h.connect()
		h.same("P1201", h.s.Open(), x.open)
		if _, e := h.connect(); e != api.Limit {
			t.Errorf("P1201: %v", e)
		}
	}
	for _, id := range []int{8, 5, 7, 6} {
		h.drop(id)
	}
	h.same("P1201", h.s.Open(), "[]")
	for i := range 70 {
		id, _ := h.connect()
		h.same("P1201", id, 9+i)
		h.drop(id)
	}
	// One that is dropped as it was Large makes room too.
	for range 4 {
		h.connect()
	}
	h.bytes(80, "\xff\xff")
	h.same("P1201", h.s.Open(), "[79 81 82]")
	h.connect()
	h.same("P1201", h.s.Open(), "[79 81 82 83]")
}

// wait queues four requests of a session, so that what comes behind them is left lying.
func (h *hall) wait(id int) {
	h.t.Helper()
	for range 4 {
		h.bytes(id, show("a"))
	}
}

// P1201, P5: 2000 bytes may lie there; of what is queued nothing lies there; what is Full changes nothing, not even the clock.
func TestFull(t *testing.T) {
	for _, first := range []int{0, 1, 2, 1000, 1999, 2000} {
		h := newHall(t, 100)
		h.connect()
		h.connect()
		h.wait(0)
		lie := strings.Repeat("\x00", 2001)
		if e := h.bytes(0, lie); e != api.Full {
			t.Errorf("P1201: 2001 bytes: %v", e)
		}
		if h.bytes(0, lie[:first]) != api.OK || h.bytes(0, lie[:2001-first]) != api.Full || h.bytes(0, lie+lie) != api.Full || h.bytes(0, lie[:2000-first]) != api.OK {
			t.Errorf("P1201: %d bytes, and so many that there are 2000", first)
		}
		if h.bytes(0, "\x00") != api.Full || h.bytes(0, "") != api.OK || h.bytes(0, "\xff\xff") != api.Full {
			t.Error("P1201: behind 2000 bytes")
		}
		// Of each session for itself.
		if h.bytes(1, strings.Repeat(show("b"), 4)+lie[:1979]) != api.OK || h.bytes(1, lie[:1980]) != api.Full {
			t.Error("P1201: of another session")
		}
		// Four times, then two or three, and the other one's: a clock that Full had moved would be ahead.
		h.step(0)
		h.step(0)
		h.same("P1202", fmt.Sprint(h.records()[0]), fmt.Sprintf("{0 1 %d 0 false {4 a  0} {missing  [] []}}", 10))
		// The fifth, of two bytes, has left room for two.
		if h.bytes(0, "abc") != api.Full || h.bytes(0, "ab") != api.OK || h.bytes(0, "c") != api.Full {
			t.Error("P1201: behind a Step")
		}
	}
}

// P1201: a request is queued as soon as its last byte is there, in pieces of whatever size.
func TestPieces(t *testing.T) {
	l := []string{put("a", "se_blr\n"), define("n", -2), build, show("a"), undef("n"), del("a"), more("b", "x"), "\x00\x00", "\x00\x03abc"}
	all := strings.Join(l, "")
	for size := 1; size <= len(all); size++ {
		h := newHall(t, 100)
		h.connect()
		got := ""
		for at := 0; at < len(all); at += size {
			h.bytes(0, all[at:min(at+size, len(all))])
			if size < 5 && at%3 == 0 {
				h.bytes(0, "")
			}
			for h.s.Queued(0) > 2 {
				h.step(0)
			}
			got += h.out(0)
		}
		for h.step(0) {
		}
		h.same("P1202", answers(t, got+h.out(0)), `ok, ok, ok 0004, ok "se_blr\n", ok, ok, missing, frame, frame`)
		h.oneOrder()
	}
	// Each request alone, byte by byte: nothing is queued ahead of the last.
	h := newHall(t, 100)
	h.connect()
	for _, b := range l {
		for i := range b {
			h.bytes(0, b[i:i+1])
			if want := i / (len(b) - 1); h.s.Queued(0) != want {
				t.Fatalf("P1201: %d queued behind %d of %q", h.s.Queued(0), i+1, b)
			}
		}
		for h.step(0) {
		}
	}
}

// P1201: the longest that may be: 1000 bytes behind the first two. It is no request, as none is that long.
func TestLongest(t *testing.T) {
	h := newHall(t, 100)
	h.connect()
	b := "\x03\xe8" + strings.Repeat("\x01", 1000)
	if h.bytes(0, b[:1001]) != api.OK || h.s.Queued(0) != 0 || h.bytes(0, b[1001:]+b[:998]) != api.OK || h.s.Queued(0) != 1 || h.bytes(0, b[998:]) != api.OK || h.s.Queued(0) != 2 {
		t.Errorf("P1201: %d queued", h.s.Queued(0))
	}
	h.bytes(0, put("twelve_bytes", strings.Repeat("x", 600)))
	for h.step(0) {
	}
	h.same("P1202", answers(t, h.out(0)), "frame, frame, ok")
}

// P1201, P1202: what comes behind four that are queued waits as bytes; it is queued as one of them is answered, and came then.
func TestFifth(t *testing.T) {
	h := newHall(t, 100)
	h.connect()
	l := []string{put("a", ""), show("a"), "\x00\x01\x09", show("b"), more("a", "x"), "\x00\x00", show("a"), "\x00\x02"}
	h.bytes(0, strings.Join(l, "")) // 1; the last is not there whole
	// The first is answered by the second Step, the next by two Steps, BadFrame by one.
	for i, want := range []int{4, 4, 4, 4, 4, 4, 3, 3, 3, 2, 1, 1, 0} {
		if !h.step(0) || h.s.Queued(0) != want {
			t.Errorf("P1202: %d queued behind Step %d, not %d", h.s.Queued(0), i+1, want)
		}
	}
	if h.step(0) {
		t.Error("P1202: Step of one with nothing queued")
	}
	h.bytes(0, "\x08\x00") // the last is whole; 15, as the Step that told false has not moved the clock
	h.step(0)
	h.same("P1202", answers(t, h.out(0)), `ok, ok, frame, missing, ok, frame, ok "x", frame`)
	var got []string
	for _, x := range h.records() {
		got = append(got, fmt.Sprint(x.Q.Kind, x.Came, x.Told, x.Stamp, x.Wrote))
	}
	h.same("P1202", strings.Join(got, ", "), "1 1 3 1 true, 4 1 5 1 false, 4 1 8 1 false, 3 3 11 2 true, 4 6 14 2 false")
	h.bytes(0, show("a"))
	h.step(0)
	h.step(0)
	h.same("P1202", fmt.Sprint(h.records()[5].Came, h.records()[5].Told), "17 19")
}

// P1202: what is no request is queued in its place, and answered at once when it is its turn; it is not recorded.
func TestBadFrame(t *testing.T) {
	for _, b := range []string{"\x00\x00", "\x00\x01\x07", "\x00\x01\x09", "\x00\x02\x08\x00", "\x00\x02\x07\x01", "\x00\x04\x04\x02r1", "\x00\x04\x04\x02AB", "\x00\x03\x04\x01A", "\x00\x04\x04\x01a.", "\x00\x03\x01\x01a", "\x01\xf4" + strings.Repeat("\x00", 500)} {
		h := newHall(t, 100)
		h.connect()
		h.bytes(0, put("a", "x")+b+show("a")+b+b)
		for i, want := range []int{4, 4, 3, 3, 2, 1, 0} {
			if !h.step(0) || h.s.Queued(0) != want {
				t.Errorf("P1202: %.20q: %d queued behind %d Steps, not %d", b, h.s.Queued(0), i+1, want)
			}
			if i == 2 {
				h.same("P1202", answers(t, h.out(0)), "ok, frame")
			}
		}
		h.same("P1202", answers(t, h.out(0)), `ok "x", frame, frame`)
		h.same("P1202", len(h.records()), 2)
		h.same("P1202", h.records()[1].Told, 6) // the Step that answered what is no request was counted
		h.oneOrder()
	}
}

// P1201: Large drops the session with all that is of it; the others go on.
func TestLargeInBytes(t *testing.T) {
	for _, x := range []struct{ ahead, b string }{{"", "\x03\xe9"}, {"", "\xff\xff"}, {"", "\x04\x00 and more"}, {"\x03", "\xe9"}, {"\xff", "\x00"}, {"", show("a") + "\x03\xe9"}, {show("a"), show("a") + show("a") + "\x80\x00"}, {show("a") + "\x00\x02\x08", "\x00\x7f\xff"}} {
		h := newHall(t, 100)
		h.connect()
		h.connect()
		h.bytes(1, put("a", "x"))
		h.step(1)
		h.bytes(0, put("b", "y"))
		h.step(0)
		h.step(0)
		h.bytes(0, x.ahead)
		h.step(0)
		if e := h.bytes(0, x.b); e != api.Large {
			t.Fatalf("P1201: %q, %q: %v", x.ahead, x.b, e)
		}
		h.same("P1201", h.s.Open(), "[1]")
		if h.step(0) || h.out(0) != "" || h.s.Queued(0) != 0 || h.bytes(0, "") != api.Missing || h.drop(0) != api.Missing {
			t.Errorf("P1201: %q, %q: it is open", x.ahead, x.b)
		}
		for h.step(1) {
		}
		h.bytes(1, show("b"))
		for h.step(1) {
		}
		h.same("P1202", answers(t, h.out(1)), `ok, ok "y"`)
		h.same("P1202", len(h.records()), 3)
		h.oneOrder()
		id, _ := h.connect()
		h.same("P1201", id, 2)
	}
}

// P1202: Large that comes up behind a Step, which tells true; what was answered is recorded, and gone with the session.
func TestLargeBehindStep(t *testing.T) {
	for _, first := range []string{put("a", "x"), show("a"), "\x00\x00", build} {
		for _, behind := range []string{"\x03\xe9", "\xff\xff" + show("a")} {
			h := newHall(t, 100)
			h.connect()
			h.connect()
			h.bytes(0, first+show("a")+show("a")+show("a"))
			if e := h.bytes(0, behind); e != api.OK {
				t.Fatalf("P1201: %v", e)
			}
			steps := 0
			for h.s.Queued(0) > 0 {
				if !h.step(0) {
					t.Error("P1202: false")
				}
				steps++
			}
			h.same("P1201", h.s.Open(), "[1]")
			h.same("P1202", h.out(0), "")
			if h.step(0) || h.bytes(0, "") != api.Missing {
				t.Error("P1202: it is open")
			}
			want := 1
			if first == "\x00\x00" {
				want = 0
			}
			h.same("P1202", len(h.records()), want)
			h.bytes(1, show("a"))
			h.step(1)
			h.step(1)
			got := h.records()[want]
			h.same("P1202", fmt.Sprint(got.Session, got.Came, got.Told), fmt.Sprint(1, 3+steps, 5+steps))
			h.oneOrder()
		}
	}
	// Behind a fifth that is queued first.
	h := newHall(t, 100)
	h.connect()
	h.bytes(0, strings.Repeat("\x00\x00", 5)+"\xff\xff")
	h.step(0)
	h.same("P1202", h.s.Queued(0), 4)
	if !h.step(0) || len(h.s.Open()) > 0 {
		t.Error("P1202: Large behind a fifth")
	}
}

// do steps a session until nothing is queued of it; what it was answered.
func (h *hall) do(id int, b string) string {
	h.t.Helper()
	h.bytes(id, b)
	for h.step(id) {
	}
	return answers(h.t, h.out(id))
}

// P1202: which answers are recorded: all but Busy, Full and BadFrame.
func TestRecorded(t *testing.T) {
	h := newHall(t, 15)
	h.connect()
	h.connect()
	// Others come between each try's two Steps.
	h.bytes(0, put("z", "busy"))
	for i := range 3 {
		h.step(0)
		h.do(1, put("abc"[i:i+1], "b b\n"))
		h.step(0)
	}
	h.same("P1202", answers(t, h.out(0)), "busy")
	h.same("P1202", h.s.Queued(0), 0)
	h.same("P1202", h.do(0, define("n", 1)+define("k", 1<<40)), "ok, ok")
	h.same("P1202", h.do(0, build), "errors a:1 name b:1 name c:1 name")
	h.same("P1202", h.do(1, put("c", ".half n")+del("b")+del("b")+more("b", "")), "ok, ok, missing, missing")
	h.same("P1202", h.do(1, more("c", "\nb: b a\n")+put("a", "a: b b\n")), "ok, ok")
	h.same("P1202", h.do(1, build+"\x00\x01\xff"), "ok e8020001e8fe, frame")
	h.same("P1202", h.do(0, more("c", strings.Repeat("x", 590))+undef("m")+undef("k")), "limit, missing, ok")
	// d, e, eight texts and four values fill the room but for one: one that is new writes two.
	for i := range 5 {
		h.same("P1202", h.do(0, put("defgh"[i:i+1], "")), "ok")
	}
	h.same("P1202", h.do(0, put("i", "")+define("i", 0)+put("j", "")), "ok, ok, limit")
	var full strings.Builder
	for i := range 7 {
		full.WriteString(h.do(0, define("abcdefg"[i:i+1], i)) + " ")
	}
	h.same("P1202", full.String(), "ok ok full full full full full ")
	got := map[string]int{}
	for i, x := range h.records() {
		got[x.R.E.Error()]++
		if x.Came >= x.Told || i > 0 && h.s.Records()[i-1].Told >= x.Told {
			t.Errorf("P1202: %s", told(x))
		}
	}
	h.same("P1202", got, "map[errors:1 limit:2 missing:3 ok:20]")
	h.oneOrder()
}

// P1202: Session, Came, Told, Stamp and Wrote of each, in the order of Told, of sessions that are stepped in turns; what only reads has the stamp at which it began.
func TestRecords(t *testing.T) {
	h := newHall(t, 100)
	for range 3 {
		h.connect()
	}
	h.bytes(2, show("a")+build)   // 1
	h.bytes(0, put("a", "x y\n")) // 2
	h.bytes(1, put("a", "# y\n")) // 3
	h.step(2)                     // 4: begins at 0
	h.step(0)                     // 5
	h.step(1)                     // 6
	h.step(0)                     // 7: stamp 1
	h.step(1)                     // 8: fails
	h.step(2)                     // 9: Missing, at 0
	h.step(2)                     // 10: the build begins at 1
	h.step(1)                     // 11: begins again
	h.step(1)                     // 12: stamp 2
	h.bytes(0, show("a"))         // 13
	h.step(0)                     // 14: begins at 2
	h.step(2)                     // 15
	h.step(0)                     // 16
	h.step(2)                     // 17
	h.step(2)                     // 18: as it was at 1
	h.same("P1202", allTold(h.records()), strings.Join([]string{
		`0: 2 to 7, 1 true: 1 "a" "x y\n" 0: 0 ""  []`,
		`2: 1 to 9, 0 false: 4 "a" "" 0: 9 ""  []`,
		`1: 3 to 12, 2 true: 1 "a" "# y\n" 0: 0 ""  []`,
		`0: 13 to 16, 2 false: 4 "a" "" 0: 0 "# y\n"  []`,
		`2: 1 to 18, 1 false: 7 "" "" 0: 14 ""  [{a 1 line}]`,
	}, "\n"))
	h.same("P1202", server.Order(h.s.Records()), "[1 0 4 2 3]")
	h.oneOrder()
	// They stay when their sessions are gone.
	was := allTold(h.s.Records())
	for id := range 3 {
		h.drop(id)
	}
	h.same("P1202", allTold(h.s.Records()), was)
}

// P1202: what lies ready is taken once, whole answers alone, in the order of the requests.
func TestOut(t *testing.T) {
	h := newHall(t, 100)
	h.connect()
	h.connect()
	h.bytes(0, put("a", "x")+show("a")+"\x00\x00"+show("b"))
	h.bytes(1, show("b")+show("a"))
	one := string(frame.Response(api.Response{}))
	if h.step(0); h.out(0) != "" {
		t.Error("P1202: ahead of an answer")
	}
	if h.step(0); h.out(0) != one || h.out(0) != "" || h.out(1) != "" {
		t.Error("P1202: an answer")
	}
	for h.step(0) {
	}
	for h.step(1) {
	}
	h.same("P1202", answers(t, h.out(0)), `ok "x", frame, missing`)
	h.same("P1202", answers(t, h.out(1)), `missing, ok "x"`)
	if h.out(0)+h.out(1) != "" {
		t.Error("P1202: taken twice")
	}
	h.same("P1202", h.do(0, show("a")), `ok "x"`)
	// As long as nobody takes it, it lies there.
	for range 400 {
		h.bytes(0, show("a"))
		h.step(0)
		h.step(0)
	}
	h.same("P1202", h.out(0), strings.Repeat(string(frame.Response(api.Response{Text: "x"})), 400))
}

// P1202: a session may be dropped at any time: nothing of it is left, not what lies there, not what is queued, not what is ready; a new one begins anew.
func TestDrop(t *testing.T) {
	l := show("a") + put("a", "x") + "\x00\x00" + show("a")
	for ahead := range len(l) + 1 {
		for steps := range 8 {
			h := newHall(t, 100)
			h.connect()
			h.connect()
			h.bytes(0, l[:ahead])
			for range steps {
				h.step(0)
			}
			recorded := allTold(h.s.Records())
			if h.drop(0) != api.OK || h.drop(0) != api.Missing || h.step(0) || h.out(0) != "" || h.bytes(0, l[ahead:]) != api.Missing {
				t.Fatalf("P1202: %d bytes, %d Steps: it is open", ahead, steps)
			}
			h.same("P1202", allTold(h.s.Records()), recorded)
			h.connect()
			if h.out(2) != "" || h.step(2) {
				t.Fatalf("P1202: %d bytes, %d Steps: something is left", ahead, steps)
			}
			h.bytes(2, l[ahead:])
			h.do(1, put("b", "")+show("a"))
			for h.step(2) {
			}
			h.oneOrder()
		}
	}
}

// P1202: what is under way is dropped: its stamp is not kept any longer, so that there is room again.
func TestDropUnpins(t *testing.T) {
	for _, how := range []string{"", "drop", "large", "large behind"} {
		h := newHall(t, 3)
		h.connect()
		h.connect()
		h.same("P1202", h.do(1, put("a", "")), "ok") // d and fa
		h.bytes(0, show("a"))
		h.step(0)
		h.same("P1202", h.do(1, put("a", "x")), "ok") // fa, of which both are kept
		h.same("P1202", h.do(1, put("a", "y")), "full")
		switch how {
		case "drop":
			h.drop(0)
		case "large":
			h.bytes(0, "\xff\xff")
		case "large behind": // it is another one's Step that is answered: this one stays
			h.bytes(1, strings.Repeat("\x00\x00", 4)+"\xff\xff")
			h.step(1)
			h.connect()
		}
		id := h.s.Open()[len(h.s.Open())-1]
		h.do(id, build)
		want := "full"
		if how == "drop" || how == "large" {
			want = "ok"
		}
		h.same("P1202: "+how, h.do(id, put("a", "z")), want)
		h.oneOrder()
	}
}

// P1201: a store of that limit, for each server its own.
func TestLimit(t *testing.T) {
	for limit, want := range []string{"full full", "full full", "ok full", "ok ok", "ok ok"} {
		h := newHall(t, limit)
		h.connect()
		got := h.do(0, put("a", ""))
		got += " " + h.do(0, put("a", "x"))
		h.same("P1201", got, want)
	}
	for _, limit := range []int{-1, math.MinInt, math.MaxInt} {
		h := newHall(t, limit)
		h.connect()
		h.same("P8", h.do(0, put("a", "")) == "ok", limit > 0)
	}
}

// P1202: by Stamp, of one those that wrote first, of these by Told, of one by their place; nothing else counts.
func TestOrder(t *testing.T) {
	type r = server.Record
	for _, x := range []struct {
		l    []r
		want string
	}{
		{nil, "[]"}, {[]r{}, "[]"}, {[]r{{}}, "[0]"}, {[]r{{Stamp: 9, Told: 7, Wrote: true}}, "[0]"},
		{[]r{{Stamp: 2}, {Stamp: 1}}, "[1 0]"}, {[]r{{Stamp: 1}, {Stamp: 2}}, "[0 1]"}, {[]r{{Stamp: 1}, {Stamp: 1}, {Stamp: 1}}, "[0 1 2]"},
		{[]r{{Stamp: 1}, {Stamp: 1, Wrote: true}}, "[1 0]"}, {[]r{{Stamp: 1, Told: 1}, {Stamp: 1, Told: 2, Wrote: true}}, "[1 0]"}, {[]r{{Stamp: 1}, {Stamp: 2, Wrote: true}}, "[0 1]"},
		{[]r{{Told: 2}, {Told: 1}}, "[1 0]"}, {[]r{{Told: 2, Wrote: true}, {Told: 1, Wrote: true}}, "[1 0]"}, {[]r{{Stamp: 1, Told: 1}, {Told: 2}}, "[1 0]"},
		{[]r{{Session: 3, Came: 5}, {Session: 1, Came: 9}, {Session: 2, Came: 7}}, "[0 1 2]"}, {[]r{{Q: api.Request{Kind: 7}}, {R: api.Response{E: 9}}, {}}, "[0 1 2]"},
		{[]r{{Stamp: -1}, {Stamp: math.MinInt}, {Stamp: math.MaxInt}, {}, {Stamp: 1}}, "[1 0 3 4 2]"}, {[]r{{Told: math.MaxInt}, {Told: -1}, {}, {Told: math.MinInt}}, "[3 1 2 0]"},
	} {
		if got := fmt.Sprint(server.Order(x.l)); got != x.want || fmt.Sprint(plainOrder(x.l)) != x.want {
			t.Errorf("P1202: %v: %s, not %s", x.l, got, x.want)
		}
	}
}

// P1202: all lists of up to five of these, and P2: with spare room behind them, as they were.
func TestAllOrders(t *testing.T) {
	type r = server.Record
	all := []r{{}, {Told: 1}, {Wrote: true}, {Wrote: true, Told: 1}, {Stamp: 1}, {Stamp: 1, Told: 1}, {Stamp: 1, Wrote: true}}
	same := func(x, y r) bool { return told(x) == told(y) }
	var each func(l []r, left int)
	each = func(l []r, left int) {
		room := append(slices.Clone(l), all...)
		got := server.Order(room[:len(l)])
		if want := plainOrder(l); !slices.Equal(got, want) {
			t.Fatalf("P1202: %v: %v, not %v", l, got, want)
		}
		if len(l) < 4 && (!slices.EqualFunc(room[:len(l)], l, same) || !slices.EqualFunc(room[len(l):], all, same)) {
			t.Fatalf("P2: %v became %v", l, room)
		}
		if left == 0 {
			return
		}
		for _, x := range all {
			each(append(slices.Clip(l), x), left-1)
		}
	}
	each(nil, 5)
}
