package http_test

import (
	"bufio"
	"bytes"
	"fmt"
	"io"
	"math/rand"
	nethttp "net/http"
	"net/url"
	"slices"
	"strings"
	"testing"
	"unsafe"

	"covey/api"
	"covey/http"
)

const (
	line  = "GET / HTTP/1.1\r\n"
	reply = "HTTP/1.1 200 OK\r\n"
)

// sameMessage holds two messages against each other, an empty list being the same as none.
func sameMessage(a, b api.Message) bool {
	return a.Method == b.Method && a.Target == b.Target && a.Status == b.Status && a.Reason == b.Reason &&
		slices.Equal(a.Headers, b.Headers) && bytes.Equal(a.Body, b.Body)
}

// sameFault tells whether an error is this fault itself, or, of nil, none.
func sameFault(err error, want *api.Fault) bool {
	if want == nil {
		return err == nil
	}
	f, ok := err.(*api.Fault)
	return ok && f != nil && *f == *want
}

// feeds asks a new feed for the bytes, cut so, and holds all that it answers against the oracle's reckoning of what it has taken.
func feeds(t *testing.T, answers bool, pieces ...[]byte) {
	t.Helper()
	f := http.New(answers)
	if f.Open() {
		t.Fatalf("a new feed is open")
	}
	var taken []byte
	told := 0
	for _, b := range pieces {
		taken = append(taken, b...)
		got, err := f.Feed(b)
		whole, open, fault := reckoned(taken, answers)
		if !slices.EqualFunc(got, whole[told:], sameMessage) || !sameFault(err, fault) || f.Open() != open {
			t.Fatalf("Feed(%.300q) behind %d bytes: %v, %v, open %v; not %v, %v, %v", b, len(taken)-len(b), got, err, f.Open(), whole[told:], fault, open)
		}
		told = len(whole)
		if fault != nil {
			isShut(t, f)
			return
		}
	}
}

// isShut holds that a feed takes nothing any more.
func isShut(t *testing.T, f *http.Feed) {
	t.Helper()
	for _, b := range []string{"", line + "\r\n", "x", reply + "\r\n"} {
		if l, err := f.Feed([]byte(b)); l != nil || err != api.ErrShut || f.Open() {
			t.Fatalf("Feed(%q) behind a fault: %v, %v, open %v", b, l, err, f.Open())
		}
	}
}

// refuses holds that a feed answers this fault, whole or byte by byte, and nothing beside it.
func refuses(t *testing.T, answers bool, s string, at int, code api.Code) {
	t.Helper()
	l, err := http.New(answers).Feed([]byte(s))
	if len(l) != 0 || !sameFault(err, &api.Fault{At: at, Err: code}) {
		t.Fatalf("Feed(%.300q): %v, %v; not %v at %d", s, l, err, code, at)
	}
	feeds(t, answers, []byte(s[:at]), []byte(s[at:]))
	f := http.New(answers)
	for i := range at {
		if l, err := f.Feed([]byte{s[i]}); len(l) != 0 || err != nil {
			t.Fatalf("Feed(%.300q), byte by byte: %v, %v at %d", s, l, err, i)
		}
	}
	if l, err := f.Feed([]byte{s[at]}); len(l) != 0 || !sameFault(err, &api.Fault{At: at, Err: code}) {
		t.Fatalf("Feed(%.300q), byte by byte: %v, %v; not %v at %d", s, l, err, code, at)
	}
}

// takes holds that a feed answers just this message.
func takes(t *testing.T, answers bool, s string, want api.Message) {
	t.Helper()
	l, err := http.New(answers).Feed([]byte(s))
	if err != nil || len(l) != 1 || !sameMessage(l[0], want) {
		t.Fatalf("Feed(%.300q): %v, %v; not %v", s, l, err, want)
	}
	feeds(t, answers, []byte(s))
}

func singles(s string) [][]byte {
	var l [][]byte
	for i := range len(s) {
		l = append(l, []byte{s[i]})
	}
	return l
}

func headers(pairs ...string) []api.Header {
	var l []api.Header
	for i := 0; i < len(pairs); i += 2 {
		l = append(l, api.Header{Name: pairs[i], Value: pairs[i+1]})
	}
	return l
}

// requests and replies are streams of whole messages.
var requests = []string{
	line + "\r\n",
	"GET /a HTTP/1.1\r\nHost: b \r\n\r\n",
	"DELETE /a%2F?b=~&c HTTP/1.1\r\n!#$%&'*+-.^_`|~09azAZ:\t \x80\xff b\tc \t\r\nEmpty:\r\nBlank: \t\r\n\r\n",
	"ABCDEFGHIJKLMNOP ! HTTP/1.1\r\nContent-Length: 3\r\n\r\na\r\n" + line + "\r\n",
	"P /~ HTTP/1.1\r\ncONTENT-length:\t0000000002 \r\na:b\r\n\r\n\x00\xff" + "Q / HTTP/1.1\r\nContent-Length: 0\r\n\r\n",
	"POST / HTTP/1.1\r\nTransfer-Encoding: chunked\r\n\r\n3\r\nabc\r\n0\r\n\r\n",
	"POST / HTTP/1.1\r\ntransfer-encoding: cHUNKED \r\n\r\n00000003\r\n\r\n0\r\n0b\r\n0123456789a\r\nA\r\n0123456789\r\n0000\r\n\r\n" + line + "\r\n",
	"POST / HTTP/1.1\r\nTransfer-Encoding:chunked\r\n\r\n0\r\n\r\n" + "B / HTTP/1.1\r\nContent-Length: 1\r\n\r\n\r" + line + "\r\n",
}

var replies = []string{
	reply + "\r\n",
	"HTTP/1.1 100 \r\n\r\n" + "HTTP/1.1 599 ~ no more \r\nA: b\r\n\r\n",
	"HTTP/1.1 404 Not Found\r\nContent-Length: 4\r\n\r\nHTTP" + "HTTP/1.1 204 None\r\n\r\n",
	"HTTP/1.1 500  \r\nTRANSFER-ENCODING: Chunked\r\nx: y\r\n\r\n2\r\n\r\n\r\n1\r\nz\r\n00\r\n\r\n" + reply + "\r\n",
}

func streams(each func(s string, answers bool)) {
	for _, s := range requests {
		each(s, false)
	}
	for _, s := range replies {
		each(s, true)
	}
}

func TestExamples(t *testing.T) {
	f := http.New(false)
	if l, err := f.Feed([]byte("GET /a HTTP/1.1\r\nHost: b \r\n\r")); l != nil || err != nil || !f.Open() {
		t.Errorf("Feed: %v, %v", l, err)
	}
	want := api.Message{Method: "GET", Target: "/a", Headers: headers("Host", "b")}
	if l, err := f.Feed([]byte("\n")); len(l) != 1 || err != nil || f.Open() || !sameMessage(l[0], want) {
		t.Errorf("Feed: %v, %v", l, err)
	}
	takes(t, false, "POST / HTTP/1.1\r\nTransfer-Encoding: chunked\r\n\r\n3\r\nabc\r\n0\r\n\r\n",
		api.Message{Method: "POST", Target: "/", Headers: headers("Transfer-Encoding", "chunked"), Body: []byte("abc")})
	refuses(t, false, "GET  ", 4, api.ErrSyntax)
	refuses(t, false, "GET / HTTP/1.0", 13, api.ErrVersion)
	refuses(t, false, "a", 0, api.ErrSyntax)
	refuses(t, false, "GET / HTTP/1.1\r\nContent-Length: x\r\n\r\n", 36, api.ErrBody)
	if b, err := http.Write(api.Message{Status: 200, Reason: "OK", Body: []byte("hi")}); string(b) != "HTTP/1.1 200 OK\r\nContent-Length: 2\r\n\r\nhi" || err != nil {
		t.Errorf("Write: %q, %v", b, err)
	}
	splits(t, "/a%2Fb/?x=1&y", []string{"a/b", ""}, []api.Param{{Name: "x", Value: "1"}, {Name: "y"}})
	splitFails(t, "/%zz", 1, api.ErrSyntax)
	splitFails(t, "a", 0, api.ErrSyntax)
	splitFails(t, "/%ff/b", 1, api.ErrUtf)
	if s := http.Join([]string{"a/b", "é"}, []api.Param{{Name: "x", Value: "1 2"}}); s != "/a%2Fb/%C3%A9?x=1%202" {
		t.Errorf("Join: %s", s)
	}
}

func TestMessages(t *testing.T) {
	takes(t, false, requests[2], api.Message{Method: "DELETE", Target: "/a%2F?b=~&c",
		Headers: headers("!#$%&'*+-.^_`|~09azAZ", "\x80\xff b\tc", "Empty", "", "Blank", "")})
	takes(t, true, "HTTP/1.1 307  Over  there \r\nLocation: x\r\nLocation: y\r\ncontent-length: 1\r\n\r\n\n",
		api.Message{Status: 307, Reason: " Over  there ", Headers: headers("Location", "x", "Location", "y", "content-length", "1"), Body: []byte("\n")})
	for status := 100; status < 600; status++ {
		takes(t, true, fmt.Sprintf("HTTP/1.1 %d \r\n\r\n", status), api.Message{Status: status})
	}
	f := http.New(false)
	l, err := f.Feed([]byte(strings.Join(requests, "")))
	if err != nil || len(l) != 13 || f.Open() {
		t.Errorf("Feed of all: %v, %v", l, err)
	}
	if l, err := f.Feed(nil); l != nil || err != nil || f.Open() {
		t.Errorf("Feed of nothing: %v, %v", l, err)
	}
}

// However a stream is cut, and wherever it ends, its messages are the same.
func TestPieces(t *testing.T) {
	streams(func(s string, answers bool) {
		b := []byte(s)
		feeds(t, answers, b)
		feeds(t, answers, singles(s)...)
		for i := range len(b) + 1 {
			feeds(t, answers, b[:i], nil, b[i:], b)
			for j := i; j <= len(b); j += 7 {
				feeds(t, answers, b[:i], b[i:j], b[j:])
			}
		}
	})
}

// Any byte at any place: instead of the one there, ahead of it, and that one left out.
func TestAnyByte(t *testing.T) {
	streams(func(s string, answers bool) {
		for i := range len(s) {
			for c := range 256 {
				feeds(t, answers, []byte(s[:i]+string([]byte{byte(c)})+s[i+1:]))
				feeds(t, answers, []byte(s[:i]+string([]byte{byte(c)})+s[i:]))
			}
			feeds(t, answers, []byte(s[:i]+s[i+1:]))
			feeds(t, !answers, []byte(s[i:]))
			feeds(t, answers, []byte(s[i:]))
		}
	})
}

func TestStartLine(t *testing.T) {
	refuses(t, false, "ABCDEFGHIJKLMNOPQ / HTTP/1.1\r\n\r\n", 16, api.ErrSyntax)
	refuses(t, false, " / HTTP/1.1\r\n\r\n", 0, api.ErrSyntax)
	refuses(t, false, "GeT / HTTP/1.1\r\n\r\n", 1, api.ErrSyntax)
	refuses(t, false, "\r\n"+line+"\r\n", 0, api.ErrSyntax)
	refuses(t, false, "GET /\r\n", 5, api.ErrSyntax)
	refuses(t, false, "GET /\x7f", 5, api.ErrSyntax)
	refuses(t, false, "GET /\x80", 5, api.ErrSyntax)
	refuses(t, false, "GET /\t", 5, api.ErrSyntax)
	refuses(t, false, "GET /  HTTP/1.1\r\n", 6, api.ErrVersion)
	refuses(t, false, "GET / http/1.1\r\n", 6, api.ErrVersion)
	refuses(t, false, "GET / HTTP/1.1\n", 14, api.ErrVersion)
	refuses(t, false, "GET / HTTP/1.1 \r\n", 14, api.ErrVersion)
	refuses(t, false, "GET / HTTP/1.10\r\n", 14, api.ErrVersion)
	refuses(t, false, "GET / HTTP/1.1\r\r", 15, api.ErrSyntax)
	refuses(t, true, "GET / HTTP/1.1\r\n\r\n", 0, api.ErrVersion)
	refuses(t, true, "HTTP/1.0 200 OK\r\n", 7, api.ErrVersion)
	refuses(t, true, "HTTP/1.1\r\n", 8, api.ErrVersion)
	refuses(t, true, "HTTP/1.1\t200 OK\r\n", 8, api.ErrVersion)
	refuses(t, true, "HTTP/1.1  200 OK\r\n", 9, api.ErrSyntax)
	refuses(t, true, "HTTP/1.1 099 OK\r\n", 9, api.ErrSyntax)
	refuses(t, true, "HTTP/1.1 600 OK\r\n", 9, api.ErrSyntax)
	refuses(t, true, "HTTP/1.1 1a0 OK\r\n", 10, api.ErrSyntax)
	refuses(t, true, "HTTP/1.1 20 OK\r\n", 11, api.ErrSyntax)
	refuses(t, true, "HTTP/1.1 2000 OK\r\n", 12, api.ErrSyntax)
	refuses(t, true, "HTTP/1.1 200\r\n", 12, api.ErrSyntax)
	refuses(t, true, "HTTP/1.1 200 O\tK\r\n", 14, api.ErrSyntax)
	refuses(t, true, "HTTP/1.1 200 \x80\r\n", 13, api.ErrSyntax)
	refuses(t, true, "HTTP/1.1 200 OK\n", 15, api.ErrSyntax)
	refuses(t, true, "HTTP/1.1 200 OK\r\r", 16, api.ErrSyntax)
	refuses(t, false, reply, 4, api.ErrSyntax)
}

func TestHeaders(t *testing.T) {
	n := len(line)
	refuses(t, false, line+":b\r\n", n, api.ErrSyntax)
	refuses(t, false, line+" a:b\r\n", n, api.ErrSyntax)
	refuses(t, false, line+"\n", n, api.ErrSyntax)
	refuses(t, false, line+"a : b\r\n", n+1, api.ErrSyntax)
	refuses(t, false, line+"a\r\n", n+1, api.ErrSyntax)
	refuses(t, false, line+"a:b\n", n+3, api.ErrSyntax)
	refuses(t, false, line+"a:b\x00", n+3, api.ErrSyntax)
	refuses(t, false, line+"a:b\x7f", n+3, api.ErrSyntax)
	refuses(t, false, line+"a:b\r\r\n", n+4, api.ErrSyntax)
	refuses(t, false, line+"a:b\r\n c\r\n", n+5, api.ErrSyntax)
	refuses(t, false, line+"\xc3\xa9:b\r\n", n, api.ErrSyntax)
	refuses(t, false, line+"\r\r", n+1, api.ErrSyntax)
	takes(t, false, line+"a: \t b \t c\t \r\nA::\r\n\r\n", api.Message{Method: "GET", Target: "/", Headers: headers("a", "b \t c", "A", ":")})
}

func TestTargetBound(t *testing.T) {
	target := strings.Repeat("/a", 1024)
	takes(t, false, "GET "+target+" HTTP/1.1\r\n\r\n", api.Message{Method: "GET", Target: target})
	for c := range 256 {
		code := api.ErrSyntax
		if c > 0x20 && c < 0x7f {
			code = api.ErrLong
		}
		if c != ' ' {
			refuses(t, false, "GET "+target+string([]byte{byte(c)}), 4+2048, code)
		}
	}
	refuses(t, false, "GET "+target+" x", 4+2049, api.ErrVersion)
}

func TestHeaderBound(t *testing.T) {
	many := func(n int) string { return strings.Repeat("a:b\r\n", n) }
	for _, first := range []struct {
		s       string
		answers bool
	}{{line, false}, {reply, true}} {
		l, err := http.New(first.answers).Feed([]byte(first.s + many(64) + "\r\n"))
		if err != nil || len(l) != 1 || len(l[0].Headers) != 64 {
			t.Errorf("64 headers: %v, %v", l, err)
		}
		for c := range 256 {
			s := first.s + many(64) + string([]byte{byte(c)})
			if c != '\r' {
				refuses(t, first.answers, s, len(s)-1, api.ErrLong)
			}
		}
		refuses(t, first.answers, first.s+many(64)+"\r\r", len(first.s)+64*5+1, api.ErrSyntax)
		refuses(t, first.answers, first.s+many(63)+":", len(first.s)+63*5, api.ErrSyntax)
		// The bound is each message's own.
		two := first.s + many(64) + "\r\n"
		if l, err := http.New(first.answers).Feed([]byte(two + two)); err != nil || len(l) != 2 {
			t.Errorf("64 headers twice: %v, %v", l, err)
		}
	}
}

// headOf is a head of so many bytes, the last of its headers being filled up; more stands behind its start line.
func headOf(start, more string, n int) string {
	s := start + more + "filling:"
	return s + strings.Repeat("x", n-len(s)-4) + "\r\n\r\n"
}

func TestHeadBound(t *testing.T) {
	for _, first := range []struct {
		s       string
		answers bool
	}{{line, false}, {reply, true}} {
		for n := 8188; n <= 8192; n++ {
			s := headOf(first.s, "Content-Length: 2\r\n", n) + "hi"
			feeds(t, first.answers, []byte(s+s), []byte(s[:100]))
			feeds(t, first.answers, []byte(s[:n-1]), []byte(s[n-1:n]), []byte(s[n:]+s))
			l, err := http.New(first.answers).Feed([]byte(s + s))
			if err != nil || len(l) != 2 || string(l[1].Body) != "hi" {
				t.Errorf("a head of %d bytes: %d messages, %v", n, len(l), err)
			}
		}
		for n := 8193; n <= 8200; n++ {
			s := headOf(first.s, "", n)
			refuses(t, first.answers, s, 8192, api.ErrLong)
			// It goes ahead of all else that may be amiss of that byte.
			for _, c := range []string{"\x00", "\r", "\n", ":", "x", "\x7f"} {
				refuses(t, first.answers, s[:8192]+c, 8192, api.ErrLong)
			}
		}
		refuses(t, first.answers, headOf(first.s, "Content-Length: 1\r\nContent-Length: 1\r\n", 8193), 8192, api.ErrLong)
		refuses(t, first.answers, headOf(first.s, "Content-Length: 1\r\nContent-Length: 1\r\n", 8192), 8191, api.ErrBody)
		refuses(t, first.answers, headOf(first.s, "Content-Length: 65537\r\n", 8192), 8191, api.ErrLong)
		refuses(t, first.answers, headOf(first.s, "", 8192)[:8191]+"x", 8191, api.ErrSyntax)
		// Behind a head there is no such bound, and the next head has one of its own.
		body := headOf(first.s, "Content-Length: 60000\r\n", 8192) + strings.Repeat("b", 60000)
		feeds(t, first.answers, []byte(body+headOf(first.s, "", 8192)))
		feeds(t, first.answers, []byte(body+headOf(first.s, "", 8193)))
	}
	refuses(t, true, "HTTP/1.1 200 "+strings.Repeat("r", 9000), 8192, api.ErrLong)
	takes(t, true, "HTTP/1.1 200 "+strings.Repeat("r", 8175)+"\r\n\r\n", api.Message{Status: 200, Reason: strings.Repeat("r", 8175)})
	refuses(t, false, line+strings.Repeat("n", 9000), 8192, api.ErrLong)
}

func TestLengths(t *testing.T) {
	head := func(l ...string) string { return line + strings.Join(l, "\r\n") + "\r\n\r\n" }
	bad := func(code api.Code, l ...string) {
		t.Helper()
		s := head(l...)
		refuses(t, false, s, len(s)-1, code)
		feeds(t, false, []byte(s[:len(s)-1]), []byte("\r"))
		feeds(t, true, []byte(reply+s[len(line):]))
	}
	for _, v := range []string{"", "x", "-1", "+1", "1 2", "1,1", "0x1", "00000000001", "12345678901", "1.", "1_0", "١"} {
		bad(api.ErrBody, "Content-Length:"+v)
		bad(api.ErrBody, "a: b", "Content-Length: "+v+" ", "c: d")
	}
	for _, v := range []string{"", "gzip", "chunked, chunked", "gzip, chunked", "chunked;", "chunkedd", "chunke", "chun\u212aed", "\"chunked\"", "identity", "1"} {
		bad(api.ErrBody, "Transfer-Encoding: "+v)
	}
	bad(api.ErrBody, "Content-Length: 1", "Content-Length: 1")
	bad(api.ErrBody, "Content-Length: 1", "a: b", "CONTENT-LENGTH: 1")
	bad(api.ErrBody, "Content-Length: 1", "Transfer-Encoding: chunked")
	bad(api.ErrBody, "Transfer-Encoding: chunked", "Content-Length: 0")
	bad(api.ErrBody, "Transfer-Encoding: chunked", "Transfer-Encoding: chunked")
	bad(api.ErrBody, "Content-Length: 65537", "Content-Length: 65537")
	bad(api.ErrBody, "Content-Length: 65537", "Content-Length: x")
	for _, v := range []string{"65537", "0000065537", "70000", "4294967296", "4294967297", "9999999999", "100000"} {
		bad(api.ErrLong, "Content-Length: "+v)
	}
	for _, v := range []string{"Content-Lengths: x", "Content_Length: x", "XContent-Length: 5", "Transfer-Encodin: x", "TE: chunked"} {
		if l, err := http.New(false).Feed([]byte(head(v, v))); err != nil || len(l) != 1 {
			t.Errorf("%s: %v, %v", v, l, err)
		}
	}
	for _, n := range []int{0, 1, 9, 10, 255, 256, 65535, 65536} {
		body := strings.Repeat("\r\n0", n/3+1)[:n]
		for _, form := range []string{"content-LENGTH: %d", "Content-Length:%010d"} {
			s := head(fmt.Sprintf(form, n)) + body
			feeds(t, false, []byte(s+line), []byte("\r\n"))
			feeds(t, true, []byte(reply+s[len(line):]+reply), []byte("\r\n"))
			l, err := http.New(false).Feed([]byte(s))
			if err != nil || len(l) != 1 || string(l[0].Body) != body {
				t.Errorf("a body of %d bytes: %d messages, %v", n, len(l), err)
			}
		}
	}
}

func TestChunks(t *testing.T) {
	head := "POST / HTTP/1.1\r\nTransfer-Encoding: chunked\r\n\r\n"
	n := len(head)
	bad := func(s string, at int, code api.Code) {
		t.Helper()
		refuses(t, false, head+s, n+at, code)
	}
	bad("\r\n", 0, api.ErrBody)
	bad("g\r\n", 0, api.ErrBody)
	bad("-1\r\n", 0, api.ErrBody)
	bad(" 1\r\n", 0, api.ErrBody)
	bad("1 \r\n", 1, api.ErrBody)
	bad("1;a=b\r\n", 1, api.ErrBody)
	bad("1\n", 1, api.ErrBody)
	bad("1\rx", 2, api.ErrBody)
	bad("000000001\r\n", 8, api.ErrBody)
	bad("1\r\nab", 4, api.ErrBody)
	bad("1\r\na\n", 4, api.ErrBody)
	bad("1\r\na\rx", 5, api.ErrBody)
	bad("1\r\na\r\n\r\n", 6, api.ErrBody)
	bad("0\r\na: b\r\n\r\n", 3, api.ErrBody)
	bad("0\r\n0\r\n\r\n", 3, api.ErrBody)
	bad("0\r\n\rx", 4, api.ErrBody)
	bad("10001\r\n", 6, api.ErrLong)
	bad("10001\rx", 6, api.ErrBody)
	bad("ffffffff\r\n", 9, api.ErrLong)
	bad("FFFFFFFF\r\n", 9, api.ErrLong)
	bad("80000000\r\n", 9, api.ErrLong)
	bad("1\r\na\r\n10000\r\n", 12, api.ErrLong)
	bad("1\r\na\r\nffffffff\r\n", 15, api.ErrLong)
	most := "10000\r\n" + strings.Repeat("m", 65536) + "\r\n"
	bad(most+"1\r\n", len(most)+2, api.ErrLong)
	bad(most+"00000001\r\n", len(most)+9, api.ErrLong)
	halves := strings.Repeat("4000\r\n"+strings.Repeat("h", 16384)+"\r\n", 4)
	ones := strings.Repeat("1\r\no\r\n", 1000)
	message := func(body string) api.Message {
		return api.Message{Method: "POST", Target: "/", Headers: headers("Transfer-Encoding", "chunked"), Body: []byte(body)}
	}
	takes(t, false, head+most+"0\r\n\r\n", message(strings.Repeat("m", 65536)))
	takes(t, false, head+halves+"00000000\r\n\r\n", message(strings.Repeat("h", 65536)))
	takes(t, false, head+ones+"0\r\n\r\n", message(strings.Repeat("o", 1000)))
	takes(t, false, head+"fC18\r\n"+strings.Repeat("f", 64536)+"\r\n"+ones+"0\r\n\r\n", message(strings.Repeat("f", 64536)+strings.Repeat("o", 1000)))
	refuses(t, false, head+"fc19\r\n"+strings.Repeat("f", 64537)+"\r\n"+ones, n+6+64537+2+6*999+2, api.ErrLong)
	// Behind the last piece another message may stand, with a sum of its own.
	feeds(t, false, []byte(head+most+"0\r\n\r\n"+head+most+"0\r\n\r\n"+line))
	for _, digit := range "0123456789abcdefABCDEF" {
		var size int
		fmt.Sscanf(string(digit), "%x", &size)
		if size > 0 {
			takes(t, false, head+"0"+string(digit)+"\r\n"+strings.Repeat("d", size)+"\r\n0\r\n\r\n", message(strings.Repeat("d", size)))
			takes(t, false, head+string(digit)+"0\r\n"+strings.Repeat("d", 16*size)+"\r\n0\r\n\r\n", message(strings.Repeat("d", 16*size)))
		}
	}
}

func TestFaultBesideMessages(t *testing.T) {
	s := requests[3] + requests[5]
	f := http.New(false)
	l, err := f.Feed([]byte(s + line + "?"))
	if len(l) != 3 || !sameFault(err, &api.Fault{At: len(s) + len(line), Err: api.ErrSyntax}) {
		t.Errorf("Feed: %v, %v", l, err)
	}
	isShut(t, f)
	f = http.New(false)
	if l, err := f.Feed([]byte(s)); len(l) != 3 || err != nil {
		t.Errorf("Feed: %v, %v", l, err)
	}
	// Those of an earlier call are not told again; the place counts them.
	if l, err := f.Feed([]byte(" " + s)); len(l) != 0 || !sameFault(err, &api.Fault{At: len(s), Err: api.ErrSyntax}) {
		t.Errorf("Feed: %v, %v", l, err)
	}
	isShut(t, f)
	f = http.New(true)
	for i := range 1000 {
		if l, err := f.Feed([]byte(reply + "\r\n")); len(l) != 1 || err != nil || f.Open() {
			t.Fatalf("Feed %d: %v, %v", i, l, err)
		}
	}
	if l, err := f.Feed([]byte("HTTP/1.1 700")); l != nil || !sameFault(err, &api.Fault{At: 1000*(len(reply)+2) + 9, Err: api.ErrSyntax}) {
		t.Errorf("Feed: %v, %v", l, err)
	}
}

func TestOpen(t *testing.T) {
	s := "POST / HTTP/1.1\r\nTransfer-Encoding: chunked\r\n\r\n1\r\na\r\n0\r\n\r\n"
	f := http.New(false)
	for i := range 2 * len(s) {
		if _, err := f.Feed([]byte{s[i%len(s)]}); err != nil {
			t.Fatal(err)
		}
		if open := (i+1)%len(s) != 0; f.Open() != open || f.Open() != open {
			t.Errorf("Open behind %d bytes: %v", i+1, f.Open())
		}
		if l, err := f.Feed(nil); l != nil || err != nil {
			t.Errorf("Feed of nothing: %v, %v", l, err)
		}
	}
}

// What is handed in is neither changed nor kept, its spare room neither; no answer shares memory with another.
func TestFeedMemory(t *testing.T) {
	streams(func(s string, answers bool) {
		want, _, _ := reckoned([]byte(s+s), answers)
		for size := 1; size <= len(s); size++ {
			f := http.New(answers)
			var got []api.Message
			for _, piece := range slices.Collect(slices.Chunk([]byte(s+s), size)) {
				room := append(make([]byte, 0, len(piece)+32), piece...)
				spare := room[len(room):cap(room)]
				copy(spare, strings.Repeat("s", 32))
				l, err := f.Feed(room)
				if err != nil || !bytes.Equal(room, piece) || string(spare) != strings.Repeat("s", len(spare)) {
					t.Fatalf("Feed(%q) made %q, %q of it, %v", piece, room, spare, err)
				}
				clear(room)
				got = append(got, copyOf(l)...)
				for _, m := range l {
					spoil(m)
				}
			}
			if !slices.EqualFunc(got, want, sameMessage) {
				t.Fatalf("Feed of %q in pieces of %d, the answers spoilt: %v", s+s, size, got)
			}
		}
	})
	l, _ := http.New(false).Feed([]byte(strings.Join(requests, "")))
	whole := copyOf(l)
	for i := range l {
		spoil(l[i])
		for j := range l {
			if j > i && !sameMessage(l[j], whole[j]) {
				t.Fatalf("message %d was changed with %d: %v", j, i, l[j])
			}
		}
	}
}

func copyOf(l []api.Message) []api.Message {
	var all []api.Message
	for _, m := range l {
		m.Headers, m.Body = slices.Clone(m.Headers), bytes.Clone(m.Body)
		all = append(all, m)
	}
	return all
}

// spoil writes over all that a message holds, the spare room of its lists, too.
func spoil(m api.Message) {
	for i := range m.Headers[:cap(m.Headers)] {
		m.Headers[:cap(m.Headers)][i] = api.Header{Name: "spoilt", Value: "spoilt"}
	}
	for i := range m.Body[:cap(m.Body)] {
		m.Body[:cap(m.Body)][i] = '!'
	}
}

// Two feeds know nothing of one another.
func TestTwoFeeds(t *testing.T) {
	for range 2 {
		a, b := http.New(false), http.New(true)
		var gotA, gotB []api.Message
		s, r := strings.Join(requests, ""), strings.Join(replies, "")
		for i := range max(len(s), len(r)) {
			if i < len(s) {
				l, err := a.Feed([]byte{s[i]})
				if err != nil {
					t.Fatal(err)
				}
				gotA = append(gotA, l...)
			}
			if i < len(r) {
				l, err := b.Feed([]byte{r[i]})
				if err != nil {
					t.Fatal(err)
				}
				gotB = append(gotB, l...)
			}
		}
		wantA, _, _ := reckoned([]byte(s), false)
		wantB, _, _ := reckoned([]byte(r), true)
		if !slices.EqualFunc(gotA, wantA, sameMessage) || !slices.EqualFunc(gotB, wantB, sameMessage) {
			t.Errorf("two feeds: %v, %v", gotA, gotB)
		}
	}
}

// Streams made by chance, broken at some places, and cut at others.
func TestChance(t *testing.T) {
	chance := rand.New(rand.NewSource(9))
	alphabet := []byte("\r\n\r\n 0123456789abcdefABCDEF/:-?%\t\x00\x7f\x80\xff" + line)
	for range 30000 {
		answers := chance.Intn(2) == 1
		from := requests
		if answers {
			from = replies
		}
		var b []byte
		for range 1 + chance.Intn(4) {
			b = append(b, from[chance.Intn(len(from))]...)
		}
		for range chance.Intn(3) {
			at := chance.Intn(len(b))
			switch c := alphabet[chance.Intn(len(alphabet))]; chance.Intn(3) {
			case 0:
				b[at] = c
			case 1:
				b = slices.Insert(b, at, c)
			case 2:
				b = slices.Delete(b, at, min(len(b), at+1+chance.Intn(4)))
			}
			if len(b) == 0 {
				break
			}
		}
		var pieces [][]byte
		for rest := b; len(rest) > 0; {
			n := 1 + chance.Intn(len(rest))
			pieces, rest = append(pieces, rest[:n]), rest[n:]
		}
		feeds(t, answers, pieces...)
	}
}

// What the library reads of a whole request or answer is the same.
func TestLibraryReads(t *testing.T) {
	for _, s := range []string{requests[1], requests[4], requests[5], requests[6]} {
		l, err := http.New(false).Feed([]byte(s))
		r, libraryErr := nethttp.ReadRequest(bufio.NewReader(strings.NewReader(s)))
		if err != nil || libraryErr != nil {
			t.Fatalf("%q: %v, %v", s, err, libraryErr)
		}
		body, err := io.ReadAll(r.Body)
		if err != nil || r.Method != l[0].Method || r.RequestURI != l[0].Target || !bytes.Equal(body, l[0].Body) {
			t.Errorf("%q: %v, the library %v %q %v", s, l[0], r, body, err)
		}
	}
	for _, s := range []string{replies[0], replies[2], replies[3]} {
		l, err := http.New(true).Feed([]byte(s))
		r, libraryErr := nethttp.ReadResponse(bufio.NewReader(strings.NewReader(s)), &nethttp.Request{Method: "GET"})
		if err != nil || libraryErr != nil {
			t.Fatalf("%q: %v, %v", s, err, libraryErr)
		}
		body := make([]byte, len(l[0].Body))
		if _, err := io.ReadFull(r.Body, body); err != nil || r.StatusCode != l[0].Status || !bytes.Equal(body, l[0].Body) {
			t.Errorf("%q: %v, the library %v %q %v", s, l[0], r, body, err)
		}
	}
}

// writes asks Write, and holds it against the oracle; what it wrote is fed again.
func writes(t *testing.T, m api.Message) {
	t.Helper()
	b, err := http.Write(m)
	want, code := writeReckoned(m)
	if code != 0 {
		if len(b) != 0 || err != code {
			t.Fatalf("Write(%.300v): %.300q, %v; not %v", m, b, err, code)
		}
		return
	}
	if err != nil || !bytes.Equal(b, want) {
		t.Fatalf("Write(%.300v): %.300q, %v; not %.300q", m, b, err, want)
	}
	back := m
	back.Headers = append(slices.Clone(m.Headers), api.Header{Name: "Content-Length", Value: fmt.Sprint(len(m.Body))})
	takes(t, m.Method == "", string(b), back)
}

func refusesToWrite(t *testing.T, m api.Message, code api.Code) {
	t.Helper()
	if b, err := http.Write(m); len(b) != 0 || err != code {
		t.Fatalf("Write(%.300v): %.300q, %v; not %v", m, b, err, code)
	}
	writes(t, m)
}

func get(h ...string) api.Message {
	return api.Message{Method: "GET", Target: "/", Headers: headers(h...)}
}

func ok(h ...string) api.Message {
	return api.Message{Status: 200, Reason: "OK", Headers: headers(h...)}
}

func TestWriteWords(t *testing.T) {
	for _, m := range []api.Message{
		get(), ok(), get("a", "b"), ok("a", "b", "A", "", "c", "d \t e"),
		{Status: 100}, {Status: 599, Reason: " "}, {Status: 404, Reason: "Not Found", Body: []byte("\r\n\r\n")},
		{Method: "ABCDEFGHIJKLMNOP", Target: "!", Body: []byte("GET / HTTP/1.1\r\n\r\n")},
		{Method: "A", Target: strings.Repeat("~", 2048)},
	} {
		if _, err := http.Write(m); err != nil {
			t.Errorf("Write(%v): %v", m, err)
		}
		writes(t, m)
	}
	for _, m := range []api.Message{
		{}, {Method: "GET"}, {Target: "/"}, {Status: 99}, {Status: 600}, {Status: -200}, {Status: 1 << 40}, {Status: -1 << 63}, {Reason: "OK"},
		{Method: "GET", Target: "/", Status: 200}, {Method: "GET", Target: "/", Reason: "OK"}, {Method: "GET", Target: "/", Status: 200, Reason: "OK"},
		{Method: "GET", Status: 200, Reason: "OK"}, {Target: "/", Status: 200, Reason: "OK"}, {Method: "GET", Status: 200}, {Target: "/", Status: 200},
		{Method: "ABCDEFGHIJKLMNOPQ", Target: "/"}, {Method: "GET", Target: strings.Repeat("/", 2049)}, {Method: "get", Target: "/"},
		{Method: "GET", Target: "/ "}, {Method: "GET", Target: "/é"}, {Status: 200, Reason: "é"}, {Status: 200, Reason: "\r\nA: b"},
	} {
		refusesToWrite(t, m, api.ErrArg)
	}
	for _, h := range [][]string{
		{"", "b"}, {"a b", "c"}, {"a:", "b"}, {"é", "b"}, {"a", " b"}, {"a", "b "}, {"a", "\tb"}, {"a", "b\t"}, {"a", " "}, {"a", "\t"},
		{"a", "b\r\nc: d"}, {"a", "\n"}, {"a", "\x00"}, {"a", "b\x7fc"},
		{"Content-Length", "0"}, {"content-length", "0"}, {"cOnTeNt-LeNgTh", "7"}, {"Transfer-Encoding", "chunked"}, {"TRANSFER-ENCODING", "x"}, {"transfer-encoding", ""},
	} {
		refusesToWrite(t, get(h...), api.ErrArg)
		refusesToWrite(t, ok(append([]string{"x", "y"}, h...)...), api.ErrArg)
		refusesToWrite(t, ok(append(h, "x", "y")...), api.ErrArg)
	}
}

// Any byte in any word.
func TestWriteAnyByte(t *testing.T) {
	for c := range 256 {
		b := string([]byte{byte(c)})
		for _, s := range []string{b, "A" + b, b + "A", "A" + b + "A"} {
			writes(t, api.Message{Method: s, Target: "/"})
			writes(t, api.Message{Method: "A", Target: s})
			writes(t, api.Message{Status: 200, Reason: s})
			writes(t, get(s, "x"))
			writes(t, ok("x", s))
			writes(t, ok("x", "y", s, s, "x", "y"))
		}
		writes(t, api.Message{Status: 200, Body: []byte("a" + b + "a")})
	}
	for status := -1000; status < 2000; status++ {
		writes(t, api.Message{Status: status})
		writes(t, api.Message{Status: status, Reason: "x"})
	}
}

func TestWriteBounds(t *testing.T) {
	many := func(n int) []string { return strings.Split(strings.Repeat("a b ", n)[:max(4*n-1, 0)], " ") }
	for _, n := range []int{1, 62, 63} {
		if _, err := http.Write(get(many(n)...)); err != nil {
			t.Errorf("Write with %d headers: %v", n, err)
		}
		writes(t, get(many(n)...))
	}
	refusesToWrite(t, get(many(64)...), api.ErrLong)
	refusesToWrite(t, ok(many(65)...), api.ErrLong)
	refusesToWrite(t, ok(many(9000)...), api.ErrLong)
	for _, n := range []int{9, 10, 65535, 65536} {
		m := ok()
		m.Body = bytes.Repeat([]byte("b"), n)
		if b, err := http.Write(m); err != nil || len(b) < n {
			t.Errorf("Write of %d bytes: %v", n, err)
		}
		writes(t, m)
	}
	long := ok("a", "b")
	long.Body = make([]byte, 65537)
	refusesToWrite(t, long, api.ErrLong)
	long.Headers[0].Value = "\r"
	refusesToWrite(t, long, api.ErrArg)
	refusesToWrite(t, ok(append(many(70), "a", " b")...), api.ErrArg)
	refusesToWrite(t, ok(append(many(70), "content-length", "1")...), api.ErrArg)
	for _, body := range []string{"", "b", strings.Repeat("b", 12345)} {
		m := get("a", "")
		m.Body = []byte(body)
		b, _ := http.Write(m)
		room := 8192 - (len(b) - len(body))
		for n := room - 3; n <= room+3; n++ {
			m.Headers = headers("a", strings.Repeat("x", n))
			if _, err := http.Write(m); (err == nil) != (n <= room) {
				t.Errorf("Write with a header of %d bytes, where there is room for %d: %v", n, room, err)
			}
			writes(t, m)
		}
	}
	writes(t, api.Message{Status: 200, Reason: strings.Repeat("r", 8192-17-19)})
	writes(t, api.Message{Status: 200, Reason: strings.Repeat("r", 8192)})
	refusesToWrite(t, get(strings.Repeat("n", 9000), ""), api.ErrLong)
}

func TestWriteChance(t *testing.T) {
	chance := rand.New(rand.NewSource(4))
	word := func(of string, least, most int) string {
		b := make([]byte, least+chance.Intn(most-least+1))
		for i := range b {
			b[i] = of[chance.Intn(len(of))]
		}
		return string(b)
	}
	for range 3000 {
		var m api.Message
		if chance.Intn(2) == 0 {
			m = api.Message{Method: word(capitals, 1, 16), Target: word(visible, 1, 100)}
		} else {
			m = api.Message{Status: 100 + chance.Intn(500), Reason: word(printed, 0, 50)}
		}
		for range chance.Intn(10) {
			m.Headers = append(m.Headers, api.Header{Name: word(tokens, 1, 20), Value: trimmed(word(valued, 0, 40))})
		}
		m.Body = []byte(word(from(0, 255), 0, 300))
		writes(t, m)
	}
}

// What is handed in stays as it is; what is answered is new.
func TestWriteMemory(t *testing.T) {
	m := get("a", "b", "c", "d")
	m.Headers = append(make([]api.Header, 0, 8), m.Headers...)
	m.Body = append(make([]byte, 0, 64), "body"...)
	kept := copyOf([]api.Message{m})[0]
	first, err := http.Write(m)
	if err != nil {
		t.Fatal(err)
	}
	want := bytes.Clone(first)
	for i := range first[:cap(first)] {
		first[:cap(first)][i] = '!'
	}
	second, err := http.Write(m)
	if err != nil || !bytes.Equal(second, want) || !sameMessage(m, kept) {
		t.Errorf("Write again: %q, %v; of %v", second, err, m)
	}
	if spare := m.Body[4:64]; !bytes.Equal(spare, make([]byte, 60)) {
		t.Errorf("the spare room of Body: %q", spare)
	}
	for _, h := range m.Headers[2:8] {
		if h != (api.Header{}) {
			t.Errorf("the spare room of Headers: %v", h)
		}
	}
	clear(m.Body)
	clear(m.Headers)
	if !bytes.Equal(second, want) {
		t.Errorf("what was written hangs on the message: %q", second)
	}
	if b, err := http.Write(api.Message{Status: 200, Headers: []api.Header{}, Body: []byte{}}); string(b) != "HTTP/1.1 200 \r\nContent-Length: 0\r\n\r\n" || err != nil {
		t.Errorf("Write with empty lists: %q, %v", b, err)
	}
}

func TestHeader(t *testing.T) {
	m := api.Message{Headers: headers("Host", "b", "hOST", "c", "", "none", "X-Y_z", "", "x-y", "d", "É", "e", "K", "k", "@[`{", "f")}
	for name, want := range map[string]string{"Host": "b", "host": "b", "HOST": "b", "hoST": "b", "": "none", "x-y_Z": "", "X-Y": "d", "É": "e", "k": "k", "@[`{": "f"} {
		if v, ok := http.Header(m, name); v != want || !ok {
			t.Errorf("Header(%q): %q, %v", name, v, ok)
		}
	}
	// Letters are A to Z; bytes that stand as far from one another are none.
	for _, name := range []string{"Hos", "Hostt", " Host", "Host:", "é", "\u212a", "`[`{", "@{`{", "@[@{", "@[`[", "x_y", "X\ry", "\x00"} {
		if v, ok := http.Header(m, name); v != "" || ok {
			t.Errorf("Header(%q): %q, %v", name, v, ok)
		}
	}
	if v, ok := http.Header(api.Message{}, ""); v != "" || ok {
		t.Errorf("Header of none: %q, %v", v, ok)
	}
	for c := range 256 {
		for d := range 256 {
			a, b := string([]byte{'x', byte(c)}), string([]byte{'x', byte(d)})
			v, ok := http.Header(api.Message{Headers: headers(a, "v")}, b)
			ascii := c < 128 && d < 128 && strings.EqualFold(a, b)
			if ok != (a == b || ascii) || ok != (v == "v") {
				t.Fatalf("Header of %q, asked for %q: %q, %v", a, b, v, ok)
			}
		}
	}
	own := strings.Clone("own")
	if v, _ := http.Header(api.Message{Headers: headers("a", own)}, "a"); unsafe.StringData(v) == unsafe.StringData(own) {
		t.Errorf("Header answers memory that was handed in")
	}
}

// splits holds that Split answers this, and what the oracle does.
func splits(t *testing.T, target string, path []string, query []api.Param) {
	t.Helper()
	p, q, err := http.Split(target)
	if err != nil || !slices.Equal(p, path) || !slices.Equal(q, query) {
		t.Fatalf("Split(%q): %q, %q, %v; not %q, %q", target, p, q, err, path, query)
	}
	splitAgrees(t, target)
}

func splitFails(t *testing.T, target string, at int, code api.Code) {
	t.Helper()
	if _, _, err := http.Split(target); !sameFault(err, &api.Fault{At: at, Err: code}) {
		t.Fatalf("Split(%q): %v; not %v at %d", target, err, code, at)
	}
	splitAgrees(t, target)
}

func splitAgrees(t *testing.T, target string) {
	t.Helper()
	for range 2 {
		p, q, err := http.Split(target)
		path, query, fault := splitReckoned(target)
		if !sameFault(err, fault) || !slices.Equal(p, path) || !slices.Equal(q, query) {
			t.Fatalf("Split(%q): %q, %q, %v; not %q, %q, %v", target, p, q, err, path, query, fault)
		}
		for i := range p[:cap(p)] {
			p[:cap(p)][i] = "spoilt"
		}
		for i := range q[:cap(q)] {
			q[:cap(q)][i] = api.Param{Name: "spoilt"}
		}
	}
}

// params are names and values, two by two.
func params(pairs ...string) []api.Param {
	var l []api.Param
	for i := 0; i < len(pairs); i += 2 {
		l = append(l, api.Param{Name: pairs[i], Value: pairs[i+1]})
	}
	return l
}

func TestSplit(t *testing.T) {
	splits(t, "/", []string{""}, nil)
	splits(t, "//", []string{"", ""}, nil)
	splits(t, "/a", []string{"a"}, nil)
	splits(t, "/a/", []string{"a", ""}, nil)
	splits(t, "/a/b/c", []string{"a", "b", "c"}, nil)
	splits(t, "/?", []string{""}, nil)
	splits(t, "/a?", []string{"a"}, nil)
	splits(t, "/??", []string{""}, params("?", ""))
	splits(t, "/?&", []string{""}, params("", "", "", ""))
	splits(t, "/?=", []string{""}, params("", ""))
	splits(t, "/?==&=", []string{""}, params("", "=", "", ""))
	splits(t, "/?a", []string{""}, params("a", ""))
	splits(t, "/?a=", []string{""}, params("a", ""))
	splits(t, "/?=b", []string{""}, params("", "b"))
	splits(t, "/?a=b=c&&d", []string{""}, params("a", "b=c", "", "", "d", ""))
	splits(t, "/?a&", []string{""}, params("a", "", "", ""))
	splits(t, "/?a=b&", []string{""}, params("a", "b", "", ""))
	splits(t, "/a?b/c?d=e/f?g", []string{"a"}, params("b/c?d", "e/f?g"))
	splits(t, "/a=b&c/d", []string{"a=b&c", "d"}, nil)
	splits(t, "/+?+=+", []string{"+"}, params("+", "+"))
	splits(t, "/%2f%3F%26%3d%25%00", []string{"/?&=%\x00"}, nil)
	splits(t, "/?%2f%3F%26%3d%25=%26%3D%23", []string{""}, params("/?&=%", "&=#"))
	splits(t, "/%C3%a9/%f0%9f%98%80?%e2%82%ac=%C3%A9", []string{"é", "😀"}, params("€", "é"))
	splits(t, "/%41%4a%61", []string{"AJa"}, nil)
	splits(t, "/%2525", []string{"%25"}, nil)
	splits(t, "/!\"$'()*,-.09:;<>@AZ[\\]^_`az{|}~", []string{"!\"$'()*,-.09:;<>@AZ[\\]^_`az{|}~"}, nil)
}

func TestSplitFaults(t *testing.T) {
	for target, at := range map[string]int{
		"": 0, "a": 0, "?": 0, "*": 0, "%2F": 0, " /": 0, "\xff": 0, "a\x00": 0, "http://a/": 0,
		"/ ": 1, "/a b": 2, "/#": 1, "/a#b": 2, "/a?#": 3, "/a?b#": 4, "/a?b=#": 5, "/a?b=c&\x7f": 7, "/\x00": 1, "/a\x1f": 2, "/\x80": 1, "/é": 1,
		"/%": 1, "/%4": 1, "/a%": 2, "/a%g0": 2, "/a%0g": 2, "/%%41": 1, "/%4%41": 1, "/%4/1": 1, "/%/41": 1, "/?%": 2, "/?a%=b": 3, "/?a=%4": 4, "/?a=b%4&c": 5,
		"/%\x00a": 1, "/%a\x00": 1, "/%4?": 1, "/%@0": 1, "/%0`": 1, "/%:0": 1, "/%0G": 1, "/% 1": 1,
		// What is amiss further left goes ahead; of a part that isn't sound it is told when all of it is read.
		"/%ff\x00": 4, "/%ff%": 4, "/%ff#/": 4, "/a/%ff%zz": 6, "/?%ff\x00": 5, "/?a=%ff#": 7,
	} {
		splitFails(t, target, at, api.ErrSyntax)
	}
	for target, at := range map[string]int{
		"/%ff": 1, "/a%ff": 1, "/a/b%80c/d": 3, "/%c3": 1, "/%c3/%a9": 1, "/%ed%a0%80": 1, "/%c0%80": 1, "/%f4%90%80%80": 1, "/a/%ff?": 3,
		"/?%ff": 2, "/?a%ff=b": 2, "/?%ff=%": 2, "/?a=%ff": 4, "/?a=b%ff&c": 4, "/?a=b&c%ff&d": 6, "/?a=b&=%ff": 7, "/?&%ff": 3, "/?a=b=%ff": 4,
		"/%ff/\x00": 1, "/%ff/%": 1, "/%ff/#": 1, "/%ff?%": 1, "/a/%ff/%fe": 3, "/?%ff&%": 2, "/?a=%ff&#": 4, "//%ff": 2, "/x%ff/": 1,
	} {
		splitFails(t, target, at, api.ErrUtf)
	}
}

func TestSplitAnyByte(t *testing.T) {
	for _, s := range []string{"/a%2Fb/?x=1&y", "/%C3%A9/b?c=%e2%82%ac&d=e=f", "/a/%ff/b?%fe=%fd&x"} {
		for i := range len(s) + 1 {
			for c := range 256 {
				b := string([]byte{byte(c)})
				splitAgrees(t, s[:i]+b+s[i:])
				if i < len(s) {
					splitAgrees(t, s[:i]+b+s[i+1:])
				}
			}
			splitAgrees(t, s[:i])
			splitAgrees(t, s[i:])
		}
	}
	// All pairs of bytes behind a `%`.
	for c := range 256 {
		for d := range 256 {
			splitAgrees(t, "/%"+string([]byte{byte(c), byte(d)}))
			splitAgrees(t, "/?a=%"+string([]byte{byte(c), byte(d)}))
		}
	}
}

func TestSplitChance(t *testing.T) {
	chance := rand.New(rand.NewSource(6))
	bits := []string{"/", "/", "?", "&", "=", "%41", "%c3%a9", "%ff", "%c3", "%", "%4", "a", "b", "Z", "#", " ", "\x7f", "é", "%2F", "%3f", "~", "%f0%9f%98%80"}
	for range 100000 {
		s := "/"
		for range chance.Intn(12) {
			s += bits[chance.Intn(len(bits))]
		}
		splitAgrees(t, s)
	}
	// A long one, which is not held to MaxTarget.
	splits(t, "/"+strings.Repeat("a", 100000), []string{strings.Repeat("a", 100000)}, nil)
}

// joins asks Join, and holds it against the oracle; Split of it is path and query, if all are sound.
func joins(t *testing.T, path []string, query []api.Param) {
	t.Helper()
	s := http.Join(path, query)
	if s != joinReckoned(path, query) {
		t.Fatalf("Join(%q, %q): %q; not %q", path, query, s, joinReckoned(path, query))
	}
	splitAgrees(t, s)
	sound := true
	for _, part := range path {
		sound = sound && strings.ToValidUTF8(part, "?") == part
	}
	for _, q := range query {
		sound = sound && strings.ToValidUTF8(q.Name+"="+q.Value, "?") == q.Name+"="+q.Value
	}
	if sound && len(path) > 0 {
		splits(t, s, path, query)
	}
}

func TestJoin(t *testing.T) {
	for want, c := range map[string]struct {
		path  []string
		query []api.Param
	}{
		"/": {}, "//": {[]string{"", ""}, nil}, "/a": {[]string{"a"}, nil}, "/a/b/": {[]string{"a", "b", ""}, nil},
		"/?=": {nil, params("", "")}, "/a?b=": {[]string{"a"}, params("b", "")}, "/?=&=": {[]string{""}, params("", "", "", "")},
		"/a?b=c&d=e&b=c":                  {[]string{"a"}, params("b", "c", "d", "e", "b", "c")},
		"/%2F%3F%23%25%26%3D%2B%20%00%FF": {[]string{"/?#%&=+ \x00\xff"}, nil},
		"/-._~!$:@?-._~!$:@=-._~!$:@":     {[]string{"-._~!$:@"}, params("-._~!$:@", "-._~!$:@")},
		"/?%26=%3D":                       {nil, params("&", "=")},
	} {
		if s := http.Join(c.path, c.query); s != want {
			t.Errorf("Join(%q, %q): %q; not %q", c.path, c.query, s, want)
		}
		joins(t, c.path, c.query)
	}
	if s := http.Join([]string{""}, []api.Param{}); s != "/" {
		t.Errorf("Join of an empty part: %q", s)
	}
	for c := range 256 {
		b := string([]byte{byte(c)})
		joins(t, []string{b}, nil)
		joins(t, []string{"a" + b, b + "a"}, params(b, b, "x"+b, b+"y"))
		if s, err := url.PathUnescape(http.Join([]string{b}, nil)); s != "/"+b || err != nil {
			t.Errorf("the library reads %q of Join(%q): %v", s, b, err)
		}
	}
}

func TestJoinChance(t *testing.T) {
	chance := rand.New(rand.NewSource(7))
	bits := []string{"", "a", "/", "?", "&", "=", "%", "%41", "é", "€", "😀", "\xff", "#", " ", "-", "+"}
	word := func() string {
		var s string
		for range chance.Intn(4) {
			s += bits[chance.Intn(len(bits))]
		}
		return s
	}
	for range 30000 {
		var path []string
		var query []api.Param
		for range chance.Intn(4) {
			path = append(path, word())
		}
		for range chance.Intn(4) {
			query = append(query, api.Param{Name: word(), Value: word()})
		}
		kept, keptQuery := slices.Clone(path), slices.Clone(query)
		joins(t, path, query)
		if !slices.Equal(path, kept) || !slices.Equal(query, keptQuery) {
			t.Fatalf("Join changed %q, %q", kept, keptQuery)
		}
	}
}
