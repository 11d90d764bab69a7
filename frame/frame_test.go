package frame_test

import (
	"fmt"
	"slices"
	"strings"
	"testing"

	"letterpress/api"
	"letterpress/frame"
)

func Example() {
	b := frame.Request(api.Request{Kind: api.RPut, Name: "main", Text: "b end"})
	fmt.Printf("% x\n", b)
	fmt.Println(frame.ReadRequest(append(b, "more"...)))
	fmt.Println(frame.ReadRequest(b[:10]))
	fmt.Println(frame.ReadRequest([]byte{0, 2, 8, 0}))
	b = frame.Response(api.Response{E: api.Errors, Diags: []api.Diag{{Frag: "main", Line: 1, E: api.Name}}})
	fmt.Printf("% x\n", b)
	fmt.Println(frame.ReadResponse(b))
	// Output:
	// 00 0d 01 04 6d 61 69 6e 00 05 62 20 65 6e 64
	// {1 main b end 0} 15 ok
	// {0   0} 0 ok
	// {0   0} 4 frame
	// 00 00 0f 0e 00 00 00 00 00 01 04 6d 61 69 6e 00 01 04
	// {errors  [] [{main 1 name}]} 18 true
}

// The document's example.
func TestNothing(t *testing.T) {
	for _, b := range [][]byte{nil, {}} {
		if r, used, e := frame.ReadRequest(b); r != (api.Request{}) || used != 0 || e != api.OK {
			t.Errorf("P1101: %s", toldRequest(r, used, e))
		}
		if got := toldResponse(frame.ReadResponse(b)); got != toldResponse(api.Response{}, 0, false) {
			t.Errorf("P1102: %s", got)
		}
	}
}

func put(name, text string) api.Request {
	return api.Request{Kind: api.RPut, Name: name, Text: text}
}
func more(name, text string) api.Request {
	return api.Request{Kind: api.RAppend, Name: name, Text: text}
}
func define(name string, value int) api.Request {
	return api.Request{Kind: api.RDefine, Name: name, Value: value}
}

var build = api.Request{Kind: api.RBuild}

const twelve = "twelve_bytes"

var (
	text255 = strings.Repeat("x", 255)
	text256 = strings.Repeat("\xff", 256)
	text600 = strings.Repeat("line\n", 120)
)

// requests are written out with their bytes.
var requests = []struct {
	r api.Request
	b string
}{
	{put("a", ""), "\x00\x05\x01\x01a\x00\x00"},
	{put("a", "b"), "\x00\x06\x01\x01a\x00\x01b"},
	{put("a", "\x00"), "\x00\x06\x01\x01a\x00\x01\x00"},
	{put("main", "b end\n"), "\x00\x0e\x01\x04main\x00\x06b end\n"},
	{put(twelve, ""), "\x00\x10\x01\x0ctwelve_bytes\x00\x00"},
	{put("a", text255), "\x01\x04\x01\x01a\x00\xff" + text255},
	{put("a", text256), "\x01\x05\x01\x01a\x01\x00" + text256},
	{put("a", text600), "\x02\x5d\x01\x01a\x02\x58" + text600},
	{put(twelve, text600), "\x02\x68\x01\x0ctwelve_bytes\x02\x58" + text600},
	{api.Request{Kind: api.RDel, Name: "a"}, "\x00\x03\x02\x01a"},
	{api.Request{Kind: api.RDel, Name: twelve}, "\x00\x0e\x02\x0ctwelve_bytes"},
	{more("a", ""), "\x00\x05\x03\x01a\x00\x00"},
	{more("r", "b"), "\x00\x06\x03\x01r\x00\x01b"},
	{more(twelve, text255), "\x01\x0f\x03\x0ctwelve_bytes\x00\xff" + text255},
	{more("_", text256), "\x01\x05\x03\x01_\x01\x00" + text256},
	{more("a", text600), "\x02\x5d\x03\x01a\x02\x58" + text600},
	{more(twelve, text600), "\x02\x68\x03\x0ctwelve_bytes\x02\x58" + text600},
	{api.Request{Kind: api.RShow, Name: "a"}, "\x00\x03\x04\x01a"},
	{api.Request{Kind: api.RShow, Name: twelve}, "\x00\x0e\x04\x0ctwelve_bytes"},
	{define("a", 0), "\x00\x0b\x05\x01a\x00\x00\x00\x00\x00\x00\x00\x00"},
	{define("a", 1), "\x00\x0b\x05\x01a\x00\x00\x00\x00\x00\x00\x00\x01"},
	{define("a", -1), "\x00\x0b\x05\x01a\xff\xff\xff\xff\xff\xff\xff\xff"},
	{define("a", 0x1234567890), "\x00\x0b\x05\x01a\x00\x00\x00\x12\x34\x56\x78\x90"},
	{define("a", -2), "\x00\x0b\x05\x01a\xff\xff\xff\xff\xff\xff\xff\xfe"},
	{define("a", 1<<40), "\x00\x0b\x05\x01a\x00\x00\x01\x00\x00\x00\x00\x00"},
	{define("a", -1<<40), "\x00\x0b\x05\x01a\xff\xff\xff\x00\x00\x00\x00\x00"},
	{define("a", 1<<40-1), "\x00\x0b\x05\x01a\x00\x00\x00\xff\xff\xff\xff\xff"},
	{define("a", 1-1<<40), "\x00\x0b\x05\x01a\xff\xff\xff\x00\x00\x00\x00\x01"},
	{define(twelve, 256), "\x00\x16\x05\x0ctwelve_bytes\x00\x00\x00\x00\x00\x00\x01\x00"},
	{api.Request{Kind: api.RUndef, Name: "a"}, "\x00\x03\x06\x01a"},
	{api.Request{Kind: api.RUndef, Name: twelve}, "\x00\x0e\x06\x0ctwelve_bytes"},
	{build, "\x00\x02\x07\x00"},
}

// P1101, P1103
func TestRequests(t *testing.T) {
	for _, x := range requests {
		if b := goesThere(t, x.r); string(b) != x.b {
			t.Errorf("P1101: %.100q: %.100q, not %.100q", fmt.Sprint(x.r), b, x.b)
		}
		for n := range x.b {
			if r, used, e := takes(t, []byte(x.b[:n])); r != (api.Request{}) || used != 0 || e != api.OK {
				t.Errorf("P1101: %d bytes of %.100q: %s", n, x.b, toldRequest(r, used, e))
			}
		}
	}
}

// P1101: what ReadRequest tells, written out.
func TestReadRequest(t *testing.T) {
	name := func(s string) string { return "\x00" + string(rune(len(s)+2)) + "\x02" + string(rune(len(s))) + s }
	value := func(s string) string { return "\x00\x0b\x05\x01a" + s }
	for i, x := range []struct {
		b    string
		r    api.Request
		used int
		e    api.Errno
	}{
		{b: "\x00"}, {b: "\x03"}, {b: "\xff"},

		// how many bytes follow
		{b: "\x03\xe7"}, {b: "\x03\xe8"}, {b: "\x02\x58" + strings.Repeat("a", 599)},
		{b: "\x03\xe8" + strings.Repeat("a", 999)},
		{b: "\x03\xe7" + strings.Repeat("a", 999), used: 1001, e: api.BadFrame},
		{b: "\x03\xe8" + strings.Repeat("a", 1000), used: 1002, e: api.BadFrame},
		{b: "\x03\xe8" + strings.Repeat("a", 1001), used: 1002, e: api.BadFrame},
		{b: "\x03\xe9", e: api.Large}, {b: "\x03\xe9" + strings.Repeat("a", 1000), e: api.Large}, {b: "\x03\xe9" + strings.Repeat("a", 1001), e: api.Large},
		{b: "\x04\x00", e: api.Large}, {b: "\x04\x00\x07\x00", e: api.Large}, {b: "\x80\x00", e: api.Large},
		{b: "\xff\xff", e: api.Large}, {b: "\xff\xff\x07\x00", e: api.Large}, {b: "\xff\xff" + strings.Repeat("a", 65535), e: api.Large},
		{b: "\x00\x00", used: 2, e: api.BadFrame}, {b: "\x00\x00\x02\x07\x00", used: 2, e: api.BadFrame},
		{b: "\x00\x01"}, {b: "\x00\x01\x07", used: 3, e: api.BadFrame}, {b: "\x00\x01\x07\x00", used: 3, e: api.BadFrame},
		{b: "\x00\x03\x07\x00"}, {b: "\x00\x03\x07\x00\x00", used: 5, e: api.BadFrame},
		{b: "\x00\x02\x07\x00\x00", r: build, used: 4},

		// kinds
		{b: "\x00\x02\x00\x00", used: 4, e: api.BadFrame}, {b: "\x00\x02\x08\x00", used: 4, e: api.BadFrame}, {b: "\x00\x02\xff\x00", used: 4, e: api.BadFrame},
		{b: "\x00\x03\x00\x01a", used: 5, e: api.BadFrame}, {b: "\x00\x03\x08\x01a", used: 5, e: api.BadFrame}, {b: "\x00\x03\x09\x01a", used: 5, e: api.BadFrame},
		{b: "\x00\x03\x07\x01a", used: 5, e: api.BadFrame},
		{b: "\x00\x03\x01\x01a", used: 5, e: api.BadFrame}, {b: "\x00\x03\x05\x01a", used: 5, e: api.BadFrame},
		{b: "\x00\x05\x02\x01a\x00\x00", used: 7, e: api.BadFrame}, {b: "\x00\x05\x07\x00\x00\x00\x00", used: 7, e: api.BadFrame},

		// names
		{b: name("a"), r: api.Request{Kind: 2, Name: "a"}, used: 5}, {b: name(twelve), r: api.Request{Kind: 2, Name: twelve}, used: 16},
		{b: name("r"), r: api.Request{Kind: 2, Name: "r"}, used: 5}, {b: name("r1a"), r: api.Request{Kind: 2, Name: "r1a"}, used: 7},
		{b: name(""), used: 4, e: api.BadFrame}, {b: name("r1"), used: 6, e: api.BadFrame}, {b: name("r31"), used: 7, e: api.BadFrame}, {b: name("A"), used: 5, e: api.BadFrame},
		{b: name("1"), used: 5, e: api.BadFrame}, {b: name("a b"), used: 7, e: api.BadFrame}, {b: name("a "), used: 6, e: api.BadFrame}, {b: name("a\n"), used: 6, e: api.BadFrame},
		{b: name("\x00"), used: 5, e: api.BadFrame}, {b: name("thirteen_byte"), used: 17, e: api.BadFrame},
		{b: "\x00\x03\x02\x00a", used: 5, e: api.BadFrame}, {b: "\x00\x03\x02\x02a", used: 5, e: api.BadFrame}, {b: "\x00\x03\x02\x02ab", used: 5, e: api.BadFrame},
		{b: "\x00\x04\x02\x01ab", used: 6, e: api.BadFrame}, {b: "\x00\x02\x02\x01a", used: 4, e: api.BadFrame}, {b: "\x00\x03\x02\xffa", used: 5, e: api.BadFrame},

		// texts
		{b: "\x00\x04\x01\x01a\x00", used: 6, e: api.BadFrame}, {b: "\x00\x05\x01\x01a\x00\x01", used: 7, e: api.BadFrame}, {b: "\x00\x05\x01\x01a\x00\x01b", used: 7, e: api.BadFrame},
		{b: "\x00\x06\x01\x01a\x00\x00b", used: 8, e: api.BadFrame}, {b: "\x00\x06\x01\x01a\x01\x00b", used: 8, e: api.BadFrame}, {b: "\x00\x06\x01\x01a\xff\xffb", used: 8, e: api.BadFrame},
		{b: "\x02\x5e\x01\x01a\x02\x59" + text600 + "b", used: 608, e: api.BadFrame}, {b: "\x02\x5e\x03\x01a\x02\x59" + text600 + "b", used: 608, e: api.BadFrame},
		{b: "\x02\x5d\x03\x01a\x02\x58" + text600 + "b", r: more("a", text600), used: 607},

		// values
		{b: value("\x00\x00\x01\x00\x00\x00\x00\x01"), used: 13, e: api.BadFrame}, {b: value("\xff\xff\xfe\xff\xff\xff\xff\xff"), used: 13, e: api.BadFrame},
		{b: value("\x7f\xff\xff\xff\xff\xff\xff\xff"), used: 13, e: api.BadFrame}, {b: value("\x80\x00\x00\x00\x00\x00\x00\x00"), used: 13, e: api.BadFrame},
		{b: value("\xff\xff\xff\x00\x00\x00\x00\x00"), r: define("a", -1<<40), used: 13},
		{b: "\x00\x0a\x05\x01a\x00\x00\x00\x00\x00\x00\x00", used: 12, e: api.BadFrame}, {b: "\x00\x0c\x05\x01a\x00\x00\x00\x00\x00\x00\x00\x00\x00", used: 14, e: api.BadFrame},
	} {
		if got, want := toldRequest(takes(t, []byte(x.b))), toldRequest(x.r, x.used, x.e); got != want {
			t.Errorf("P1101: %d: %.100q: %s, not %s", i, x.b, got, want)
		}
	}
}

// P1103: several requests one behind the other are read one by one, whether or not they came whole.
func TestRow(t *testing.T) {
	var all []byte
	var want []string
	for _, x := range requests {
		all = append(all, frame.Request(x.r)...)
		want = append(want, toldRequest(x.r, len(x.b), api.OK))
		all = append(all, 0, 2, 9, 9)
		want = append(want, toldRequest(api.Request{}, 4, api.BadFrame))
	}
	for _, step := range []int{1, 2, 3, 7, 100, len(all)} {
		var got []string
		var lies []byte
		for piece := range slices.Chunk(all, step) {
			lies = append(lies, piece...)
			for {
				r, used, e := takes(t, lies)
				if used == 0 {
					break
				}
				lies = lies[used:]
				got = append(got, toldRequest(r, used, e))
			}
		}
		if !slices.Equal(got, want) || len(lies) != 0 {
			t.Errorf("P1103: by pieces of %d: %s", step, brief(fmt.Sprint(got)))
		}
	}
}

func diags(n int, x api.Diag) []api.Diag { return slices.Repeat([]api.Diag{x}, n) }

var image4096 = strings.Repeat("\x00\x04\xff\x80", 1024)

// responses are written out with their bytes.
var responses = []struct {
	r api.Response
	b string
}{
	{api.Response{}, "\x00\x00\x07\x00\x00\x00\x00\x00\x00\x00"},
	{api.Response{Image: []byte{}, Diags: []api.Diag{}}, "\x00\x00\x07\x00\x00\x00\x00\x00\x00\x00"},
	{api.Response{E: api.Missing}, "\x00\x00\x07\x09\x00\x00\x00\x00\x00\x00"},
	{api.Response{E: 255}, "\x00\x00\x07\xff\x00\x00\x00\x00\x00\x00"},
	{api.Response{Text: "b end"}, "\x00\x00\x0c\x00\x00\x05b end\x00\x00\x00\x00"},
	{api.Response{Text: text255}, "\x00\x01\x06\x00\x00\xff" + text255 + "\x00\x00\x00\x00"},
	{api.Response{Text: text256}, "\x00\x01\x07\x00\x01\x00" + text256 + "\x00\x00\x00\x00"},
	{api.Response{Text: text600}, "\x00\x02\x5f\x00\x02\x58" + text600 + "\x00\x00\x00\x00"},
	{api.Response{Image: []byte{0xe8, 0}}, "\x00\x00\x09\x00\x00\x00\x00\x02\xe8\x00\x00\x00"},
	{api.Response{Image: []byte(image4096)}, "\x00\x10\x07\x00\x00\x00\x10\x00" + image4096 + "\x00\x00"},
	{api.Response{E: api.Errors, Diags: diags(1, api.Diag{})}, "\x00\x00\x0b\x0e\x00\x00\x00\x00\x00\x01\x00\x00\x00\x00"},
	{api.Response{Diags: diags(1, api.Diag{Frag: "a"})}, "\x00\x00\x0c\x00\x00\x00\x00\x00\x00\x01\x01a\x00\x00\x00"},
	{api.Response{Diags: diags(1, api.Diag{Frag: twelve})}, "\x00\x00\x17\x00\x00\x00\x00\x00\x00\x01\x0ctwelve_bytes\x00\x00\x00"},
	{api.Response{Diags: diags(1, api.Diag{Line: 1})}, "\x00\x00\x0b\x00\x00\x00\x00\x00\x00\x01\x00\x00\x01\x00"},
	{api.Response{Diags: diags(1, api.Diag{Line: 256})}, "\x00\x00\x0b\x00\x00\x00\x00\x00\x00\x01\x00\x01\x00\x00"},
	{api.Response{Diags: diags(1, api.Diag{Line: 5000})}, "\x00\x00\x0b\x00\x00\x00\x00\x00\x00\x01\x00\x13\x88\x00"},
	{api.Response{Diags: diags(1, api.Diag{E: 255})}, "\x00\x00\x0b\x00\x00\x00\x00\x00\x00\x01\x00\x00\x00\xff"},
	{api.Response{Diags: []api.Diag{{Frag: "b", Line: 2, E: api.Name}, {Frag: "a", Line: 1, E: api.Twice}}}, "\x00\x00\x11\x00\x00\x00\x00\x00\x00\x02\x01b\x00\x02\x04\x01a\x00\x01\x02"},
	{api.Response{Diags: diags(256, api.Diag{Line: 3, E: 7})}, "\x00\x04\x07\x00\x00\x00\x00\x00\x01\x00" + strings.Repeat("\x00\x00\x03\x07", 256)},
	{api.Response{Diags: diags(5000, api.Diag{Frag: "a", Line: 3, E: 7})}, "\x00\x61\xaf\x00\x00\x00\x00\x00\x13\x88" + strings.Repeat("\x01a\x00\x03\x07", 5000)},
	{api.Response{E: 255, Text: text600, Image: []byte(image4096), Diags: diags(5000, api.Diag{Frag: twelve, Line: 5000, E: 255})}, "\x01\x4a\xdf\xff\x02\x58" + text600 + "\x10\x00" + image4096 + "\x13\x88" + strings.Repeat("\x0ctwelve_bytes\x13\x88\xff", 5000)},
	{api.Response{E: 1, Text: "b", Image: []byte{2}, Diags: diags(1, api.Diag{Frag: "c", Line: 3, E: 4})}, "\x00\x00\x0e\x01\x00\x01b\x00\x01\x02\x00\x01\x01c\x00\x03\x04"},
}

// P1102, P1103
func TestResponses(t *testing.T) {
	for _, x := range responses {
		b := goesThereResponse(t, x.r)
		if string(b) != x.b {
			t.Errorf("P1102: %.100q: %.100q, not %.100q", fmt.Sprint(x.r), b, x.b)
		}
		for n := range x.b {
			if len(x.b) > 10000 && n > 30 && n%997 > 2 && n < len(x.b)-30 {
				continue
			}
			if got := toldResponse(takesResponse(t, b[:n])); got != toldResponse(api.Response{}, 0, false) {
				t.Errorf("P1102: %d bytes of %.100q: %s", n, x.b, got)
			}
		}
	}
}

func head(n int) string { return string([]byte{byte(n >> 16), byte(n >> 8), byte(n)}) }

// P1102: what ReadResponse refuses, written out, and what it just takes.
func TestReadResponse(t *testing.T) {
	whole := func(s string) string { return head(len(s)) + s }
	diag := func(s string) string { return whole("\x00\x00\x00\x00\x00\x00\x01" + s) }
	for i, x := range []struct {
		b  string
		is bool
	}{
		{"\x00", false}, {"\x00\x00", false}, {"\x00\x00\x00", false}, {"\x00\x00\x07", false},
		{whole(""), false}, {whole("\x00"), false},
		{whole("\x00\x00\x00\x00\x00\x00"), false}, {whole("\x00\x00\x00\x00\x00\x00\x00"), true}, {whole("\x00\x00\x00\x00\x00\x00\x00\x00"), false},
		{head(6) + "\x00\x00\x00\x00\x00\x00\x00", false}, {head(8) + "\x00\x00\x00\x00\x00\x00\x00", false}, {head(8) + "\x00\x00\x00\x00\x00\x00\x00\x00", false},
		{"\x00\x07\x00\x00\x00\x00\x00\x00\x00\x00", false}, {"\x01\x00\x07\x00\x00\x00\x00\x00\x00\x00", false}, {"\x01\x00\x07" + strings.Repeat("\x00", 65543), false},

		{whole("\x00\x02\x58" + text600 + "\x00\x00\x00\x00"), true}, {whole("\x00\x02\x59" + text600 + "b\x00\x00\x00\x00"), false},
		{whole("\x00\x02\x58" + text600 + "b\x00\x00\x00\x00"), false}, {whole("\x00\x00\x01\x00\x00\x00\x00"), false}, {whole("\x00\xff\xff\x00\x00\x00\x00"), false},
		{whole("\x00\x00\x00\x10\x00" + image4096 + "\x00\x00"), true}, {whole("\x00\x00\x00\x10\x01" + image4096 + "b\x00\x00"), false},
		{whole("\x00\x00\x00\x10\x01" + image4096 + "\x00\x00"), false}, {whole("\x00\x00\x00\x00\x01\x00\x00"), false}, {whole("\x00\x00\x00\xff\xff\x00\x00"), false},
		{whole("\x00\x00\x00\x00\x00\x00\x01"), false}, {whole("\x00\x00\x00\x00\x00\xff\xff"), false}, {whole("\x00\x00\x00\x00\x00\x00\x01\x00\x00\x00"), false},
		{whole("\x00\x00\x00\x00\x00\x00\x00\x00\x00\x00\x00"), false}, {whole("\x00\x00\x00\x00\x00\x00\x02\x00\x00\x00\x00"), false},
		{whole("\x00\x00\x00\x00\x00\x13\x88" + strings.Repeat("\x00\x00\x00\x00", 5000)), true},
		{whole("\x00\x00\x00\x00\x00\x13\x89" + strings.Repeat("\x00\x00\x00\x00", 5001)), false},
		{whole("\x00\x00\x00\x00\x00\xff\xff" + strings.Repeat("\x00\x00\x00\x00", 65535)), false},
		{whole("\x00\x00\x00\x00\x00\x13\x87" + strings.Repeat("\x00\x00\x00\x00", 5000)), false},

		{diag("\x00\x00\x00\x00"), true}, {diag("\x00\x13\x88\xff"), true}, {diag("\x00\x13\x89\xff"), false}, {diag("\x00\x80\x00\xff"), false}, {diag("\x00\xff\xff\xff"), false},
		{diag("\x01a\x00\x00\x00"), true}, {diag("\x01r\x00\x00\x00"), true}, {diag("\x02r1\x00\x00\x00"), false}, {diag("\x01A\x00\x00\x00"), false}, {diag("\x011\x00\x00\x00"), false},
		{diag("\x01\x00\x00\x00\x00"), false}, {diag("\x02a \x00\x00\x00"), false}, {diag("\x03(a)\x00\x00\x00"), false},
		{diag("\x0ctwelve_bytes\x00\x00\x00"), true}, {diag("\x0dthirteen_byte\x00\x00\x00"), false}, {diag("\xff" + strings.Repeat("a", 255) + "\x00\x00\x00"), false},
		{diag("\x02a\x00\x00\x00"), false}, {diag("\x00a\x00\x00\x00"), false}, {diag("\x01a\x00\x00"), false},
	} {
		_, used, is := takesResponse(t, []byte(x.b))
		if is != x.is || is && used != len(x.b) {
			t.Errorf("P1102: %d: %.100q: %d, %v", i, x.b, used, is)
		}
	}
}
