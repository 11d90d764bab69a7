package frame_test

import (
	"bytes"
	"encoding/binary"
	"fmt"
	"math/rand"
	"regexp"
	"slices"
	"strings"
	"testing"

	"letterpress/api"
	"letterpress/frame"
)

// Chapter 11 written a second time: what a frame is read as is guessed from where its things would stand, and is right if it is written as that frame.

var (
	wordLike = regexp.MustCompile(`^[a-z_][a-z0-9_]{0,11}$`)
	register = regexp.MustCompile(`^r[0-9]+$`)
)

func isWord(s string) bool { return wordLike.MatchString(s) && !register.MatchString(s) }

// rightRequest is P901.
func rightRequest(r api.Request) bool {
	only := api.Request{Kind: r.Kind, Name: r.Name}
	switch r.Kind {
	case 1, 3:
		only.Text = r.Text
	case 5:
		only.Value = r.Value
	case 7:
		return r == api.Request{Kind: 7}
	case 2, 4, 6:
	default:
		return false
	}
	return isWord(r.Name) && r == only && len(r.Text) <= 600 && r.Value >= -1099511627776 && r.Value <= 1099511627776
}

// rightResponse is what P1102 says of a response.
func rightResponse(r api.Response) bool {
	right := r.E >= 0 && r.E < 256 && len(r.Text) < 601 && len(r.Image) < 4097 && len(r.Diags) < 5001
	for _, x := range r.Diags {
		right = right && (x.Frag == "" || isWord(x.Frag)) && x.Line >= 0 && x.Line < 5001 && x.E >= 0 && x.E < 256
	}
	return right
}

func two(n int) []byte { return binary.BigEndian.AppendUint16(nil, uint16(n)) }

func writtenRequest(r api.Request) []byte {
	b := append([]byte{byte(r.Kind), byte(len(r.Name))}, r.Name...)
	if r.Kind == 1 || r.Kind == 3 {
		b = slices.Concat(b, two(len(r.Text)), []byte(r.Text))
	}
	if r.Kind == 5 {
		b = binary.BigEndian.AppendUint64(b, uint64(int64(r.Value)))
	}
	return append(two(len(b)), b...)
}

func writtenResponse(r api.Response) []byte {
	b := slices.Concat([]byte{byte(r.E)}, two(len(r.Text)), []byte(r.Text), two(len(r.Image)), r.Image, two(len(r.Diags)))
	for _, x := range r.Diags {
		b = append(append(b, byte(len(x.Frag))), x.Frag...)
		b = append(append(b, two(x.Line)...), byte(x.E))
	}
	return append(binary.BigEndian.AppendUint32(nil, uint32(len(b)))[1:], b...)
}

// guesser tells bytes of some frame, as if behind it there were zeros without end.
type guesser struct {
	b  []byte
	at int
}

func (g *guesser) next(n int) string {
	b := make([]byte, n)
	if g.at < len(g.b) {
		copy(b, g.b[g.at:])
	}
	g.at += n
	return string(b)
}

func (g *guesser) number(size int) int {
	b := make([]byte, 8-size)
	return int(binary.BigEndian.Uint64(append(b, g.next(size)...)))
}

func readRequest(b []byte) (r api.Request, used int, e api.Errno) {
	if len(b) < 2 {
		return r, 0, api.OK
	}
	n := int(binary.BigEndian.Uint16(b))
	if n >= 1001 {
		return r, 0, api.Large
	}
	if n+2 > len(b) {
		return r, 0, api.OK
	}
	g := guesser{b[:n+2], 2}
	x := api.Request{Kind: g.number(1)}
	x.Name = g.next(g.number(1))
	if x.Kind == 1 || x.Kind == 3 {
		x.Text = g.next(g.number(2))
	}
	if x.Kind == 5 {
		x.Value = g.number(8)
	}
	if !rightRequest(x) || string(writtenRequest(x)) != string(b[:n+2]) {
		return r, n + 2, api.BadFrame
	}
	return x, n + 2, api.OK
}

func readResponse(b []byte) (r api.Response, used int, is bool) {
	g := guesser{b, 3}
	x := api.Response{E: api.Errno(g.number(1)), Text: g.next(g.number(2)), Image: []byte(g.next(g.number(2)))}
	for n := g.number(2); n > 0 && g.at < len(b); n-- {
		x.Diags = append(x.Diags, api.Diag{Frag: g.next(g.number(1)), Line: g.number(2), E: api.Errno(g.number(1))})
	}
	if w := writtenResponse(x); rightResponse(x) && bytes.HasPrefix(b, w) {
		return x, len(w), true
	}
	return r, 0, false
}

func toldRequest(r api.Request, used int, e api.Errno) string {
	return fmt.Sprintf("%d %q %q %d, %d, %d", r.Kind, r.Name, r.Text, r.Value, used, int(e))
}

func toldResponse(r api.Response, used int, is bool) string {
	var s strings.Builder
	fmt.Fprintf(&s, "%d %q %x", int(r.E), r.Text, r.Image)
	for _, x := range r.Diags {
		fmt.Fprintf(&s, " %q %d %d", x.Frag, x.Line, int(x.E))
	}
	fmt.Fprintf(&s, ", %d, %v", used, is)
	return s.String()
}

// fill writes all over a list, its spare room too.
func fill[T any](l []T, x T) {
	for i := range l[:cap(l)] {
		l[:cap(l)][i] = x
	}
}

// roomy is b with spare room behind it, in which there is something.
func roomy(b []byte) []byte {
	return append(slices.Clone(b), "\x00\x02\x07\x00 spare room"...)[:len(b)]
}

func whole(b []byte) string { return string(b[:cap(b)]) }

// brief is of a long text its ends.
func brief(s string) string {
	if len(s) <= 400 {
		return s
	}
	return fmt.Sprintf("%s .. (%d bytes) .. %s", s[:200], len(s), s[len(s)-150:])
}

// takes holds ReadRequest of b against the second writing; what it reads.
func takes(t *testing.T, b []byte) (api.Request, int, api.Errno) {
	t.Helper()
	b = roomy(b)
	was := whole(b)
	r, used, e := frame.ReadRequest(b)
	want := toldRequest(readRequest(b))
	if got := toldRequest(r, used, e); got != want {
		t.Fatalf("P1101: %s: %s, not %s", brief(fmt.Sprintf("%q", b)), brief(got), brief(want))
	}
	if whole(b) != was {
		t.Fatalf("P2: %s was changed", brief(fmt.Sprintf("%q", was)))
	}
	if e == api.OK && used > 0 && string(frame.Request(r)) != string(b[:used]) {
		t.Fatalf("P1101: %s is not written as it was read", brief(fmt.Sprintf("%q", b)))
	}
	fill(b, '!')
	if got := toldRequest(r, used, e); got != want {
		t.Fatalf("P2: what was read became %s, was %s", brief(got), brief(want))
	}
	return r, used, e
}

// takesResponse holds ReadResponse of b against the second writing; what it reads.
func takesResponse(t *testing.T, b []byte) (api.Response, int, bool) {
	t.Helper()
	b = roomy(b)
	was := whole(b)
	r, used, is := frame.ReadResponse(b)
	want := toldResponse(readResponse(b))
	if got := toldResponse(r, used, is); got != want {
		t.Fatalf("P1102: %s: %s, not %s", brief(fmt.Sprintf("%q", b)), brief(got), brief(want))
	}
	if whole(b) != was {
		t.Fatalf("P2: %s was changed", brief(fmt.Sprintf("%q", was)))
	}
	if is && string(frame.Response(r)) != string(b[:used]) {
		t.Fatalf("P1102: %s is not written as it was read", brief(fmt.Sprintf("%q", b)))
	}
	fill(b, '!')
	if got := toldResponse(r, used, is); got != want {
		t.Fatalf("P2: what was read became %s, was %s", brief(got), brief(want))
	}
	return r, used, is
}

// behinds is what may stand behind a frame.
var behinds = []string{"", "\x00", "\xff", "\x00\x00", "\x00\x02\x07\x00", "\xff\xff\xff\xff", "a", strings.Repeat("\x00", 700), strings.Repeat("\xff", 2000), strings.Repeat("\x01", 70000)}

// goesThere holds what r is written as against the second writing, and reads it, whatever is behind (P1103).
func goesThere(t *testing.T, r api.Request) []byte {
	t.Helper()
	b := frame.Request(r)
	if want := writtenRequest(r); !bytes.Equal(b, want) {
		t.Fatalf("P1101: %s: %s, not %s", brief(fmt.Sprintf("%q", fmt.Sprint(r))), brief(fmt.Sprintf("%q", b)), brief(fmt.Sprintf("%q", want)))
	}
	for _, s := range behinds {
		if got, used, e := takes(t, append(slices.Clone(b), s...)); got != r || used != len(b) || e != api.OK {
			t.Fatalf("P1103: %.20q behind %s: %s", s, brief(fmt.Sprintf("%q", b)), brief(toldRequest(got, used, e)))
		}
	}
	return b
}

func goesThereResponse(t *testing.T, r api.Response) []byte {
	t.Helper()
	b := frame.Response(r)
	if want := writtenResponse(r); !bytes.Equal(b, want) {
		t.Fatalf("P1102: %s: %s, not %s", brief(toldResponse(r, 0, true)), brief(fmt.Sprintf("%q", b)), brief(fmt.Sprintf("%q", want)))
	}
	want := toldResponse(r, len(b), true)
	for _, s := range behinds {
		if got := toldResponse(takesResponse(t, append(slices.Clone(b), s...))); got != want {
			t.Fatalf("P1103: %.20q behind %s: %s", s, brief(fmt.Sprintf("%q", b)), brief(got))
		}
	}
	return b
}

func pick[T any](d *rand.Rand, l ...T) T { return l[d.Intn(len(l))] }

var names = []string{"a", "_", "z", "r", "ab", "a1", "r1a", "rr1", "r_", "main", "twelve_bytes", "____________", "r_2345678901"}

func anyBytes(d *rand.Rand, n int) string {
	b := make([]byte, n)
	d.Read(b)
	if d.Intn(3) == 0 {
		for i := range b {
			b[i] = pick(d, byte(0), 1, 2, 3, 7, 'a', '\n', 255)
		}
	}
	return string(b)
}

func anySize(d *rand.Rand, most int) int {
	return min(most, pick(d, 0, 0, 1, 2, 3, 4, 255, 256, 257, most-1, most, d.Intn(20), d.Intn(most+1)))
}

// anyRequest is one that is right.
func anyRequest(d *rand.Rand) api.Request {
	r := api.Request{Kind: 1 + d.Intn(7)}
	if r.Kind != 7 {
		r.Name = pick(d, names...)
	}
	if r.Kind == 1 || r.Kind == 3 {
		r.Text = anyBytes(d, anySize(d, 600))
	}
	if r.Kind == 5 {
		r.Value = pick(d, 0, 1, -1, 255, 256, -255, -256, -257, 1<<32, -1<<32, 1<<40, -1<<40, 1<<40-1, 1-1<<40, d.Intn(1<<40), -d.Intn(1<<40))
	}
	return r
}

// anyResponse is one within the bounds, with that many diagnostics at most.
func anyResponse(d *rand.Rand, most int) api.Response {
	r := api.Response{E: api.Errno(pick(d, 0, 1, 14, 255, d.Intn(256))), Text: anyBytes(d, anySize(d, 600)*d.Intn(2)), Image: []byte(anyBytes(d, anySize(d, 4096)*d.Intn(2)))}
	for range anySize(d, most) * d.Intn(2) {
		r.Diags = append(r.Diags, anyDiag(d))
	}
	return r
}

func anyDiag(d *rand.Rand) api.Diag {
	return api.Diag{Frag: pick(d, append(names, "", "", "")...), Line: pick(d, 0, 1, 255, 256, 4999, 5000, d.Intn(5001)), E: api.Errno(pick(d, 0, 1, 255, d.Intn(256)))}
}
