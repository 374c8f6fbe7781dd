package keys_test

import (
	"encoding/base64"
	"fmt"
	"math"
	"slices"
	"strings"
	"testing"

	"covey/api"
	"covey/keys"
)

// get1 is a request without a body, put one with a body.
func get1() api.Message { return api.Message{Method: "GET", Target: "/a?b=c"} }
func put(body string) api.Message {
	return api.Message{Method: "PUT", Target: "/fed/v1/send/1", Body: []byte(body)}
}

// with is a request with one more header.
func with(m api.Message, name, value string) api.Message {
	m.Headers = append(slices.Clone(m.Headers), api.Header{Name: name, Value: value})
	return m
}

// authorized is a request with that header.
func authorized(m api.Message, value string) api.Message { return with(m, "Authorization", value) }

// servers are x, which knows y's key from 10 up to 1000, and y, which knows x's.
func servers(t *testing.T) (x, y both) {
	x = open(t, config())
	y = open(t, api.Config{Name: "y", Key: "ed25519:1", Seed: seed(1), Peers: []api.Peer{peer("x", "ed25519:1", 0, 0, 50), peer("x", "ed25519:2", 5, 0, 50)}})
	return x, y
}

// nested is a text of so many lists in one another.
func nested(n int) string { return strings.Repeat("[", n) + strings.Repeat("]", n) }

// goodBodies are bodies that can be signed.
func goodBodies() []string {
	return []string{
		"", "{}", "null", "0", "-0", "true", `""`, `"é\u00e9\n\/"`, "[]", `{"b":1,"a":[{"z":2,"y":"\ud83d\ude00"}]}`, " \t\r\n{ \"a\" : 1 } ", fmt.Sprint(maxInt), fmt.Sprint(-maxInt),
		`{"method":"a","uri":"b","origin":"c","destination":"d","content":"e"}`, nested(31), strings.Repeat(" ", 65534) + "{}", `"` + strings.Repeat("a", 60000) + `"`,
	}
}

func TestSignRequest(t *testing.T) {
	x, y := servers(t)
	for _, body := range goodBodies() {
		for _, m := range []api.Message{put(body), with(with(put(body), "Host", "y"), "X-Authorization", "a"), {Method: "a é", Target: "no \"target\"\n", Body: []byte(body)}} {
			s, err := x.sign(m, "y")
			if err != nil {
				t.Fatalf("SignRequest(%s): %v", brief(m), err)
			}
			if len(s) != 16+1+7+9+7+86+1 || !strings.HasPrefix(s, `X-Covey origin="x",key="ed25519:1",sig="`) || !strings.HasSuffix(s, `"`) {
				t.Errorf("SignRequest(%s): %q", brief(m), s)
			}
			if err := y.request(authorized(m, s), 5); err != nil {
				t.Errorf("CheckRequest(%s): %v", brief(m), err)
			}
		}
	}
	// What is neither asked for nor signed.
	m := get1()
	a, _ := x.sign(m, "y")
	m.Status, m.Reason, m.Body = 200, "OK", []byte{}
	if b, err := x.sign(with(m, "Host", "z"), "y"); a != b || err != nil {
		t.Errorf("SignRequest with what isn't signed: %q, %v; not %q", b, err, a)
	}
	for _, dest := range []string{"x", "z", "w", "a.example", strings.Repeat("z", 64)} {
		if b, err := x.sign(get1(), dest); a == b || err != nil {
			t.Errorf("SignRequest for %q: %q, %v", dest, b, err)
		}
	}
}

func TestSignRequestRefuses(t *testing.T) {
	x, _ := servers(t)
	refused := func(what string, m api.Message, dest string, want error) {
		t.Helper()
		if s, err := x.sign(m, dest); s != "" || err != want {
			t.Errorf("SignRequest of %s: %q, %v", what, s, err)
		}
	}
	for _, dest := range []string{"", "Y", "-y", "a..b", "@a:y", "y ", "\xff", strings.Repeat("z", 65)} {
		refused("the destination "+dest, get1(), dest, api.ErrArg)
		refused("the destination "+dest+" and no JSON", put("{"), dest, api.ErrArg)
	}
	for _, s := range []string{"", "\xff", "a\xc3", "\xed\xa0\x80", strings.Repeat("a", 70000) + "\xff"} {
		refused("another method", api.Message{Method: s, Target: "/"}, "y", api.ErrArg)
		refused("another target", api.Message{Method: "GET", Target: s}, "y", api.ErrArg)
		refused("another target and no JSON", api.Message{Method: "GET", Target: s, Body: []byte("{")}, "y", api.ErrArg)
	}
	for _, name := range []string{"Authorization", "authorization", "AUTHORIZATION", "aUTHORIZATIOn"} {
		for _, value := range []string{"", "a", header("x", "ed25519:1", "")} {
			refused("a header "+name, with(get1(), name, value), "y", api.ErrArg)
			refused("a header "+name+" behind another", with(with(put("{"), "Host", "y"), name, value), "y", api.ErrArg)
		}
	}
	for _, name := range []string{"", "Authorizatio", "Authorizations", " Authorization", "Authorizat\u0131on", "Proxy-Authorization", "\xff"} {
		if _, err := x.sign(with(get1(), name, "a"), "y"); err != nil {
			t.Errorf("SignRequest with a header %q: %v", name, err)
		}
	}
	for body, want := range badBodies() {
		refused(fmt.Sprintf("the body %.20q", body), put(body), "y", want)
	}
	refused("a long target", api.Message{Method: "GET", Target: strings.Repeat("/", 70000)}, "y", api.ErrLong)
	refused("a long method", api.Message{Method: strings.Repeat("A", 70000), Target: "/"}, "y", api.ErrLong)
	refused("a long method and no JSON", api.Message{Method: strings.Repeat("A", 70000), Target: "/", Body: []byte("[1,")}, "y", api.ErrSyntax)
	edge(t, x, "y")
}

// badBodies are bodies that can't be signed, and why.
func badBodies() map[string]error {
	return map[string]error{
		" ": api.ErrSyntax, "{": api.ErrSyntax, "a": api.ErrSyntax, "{} {}": api.ErrSyntax, "1.5": api.ErrSyntax, "\x00": api.ErrSyntax, "\xff": api.ErrSyntax,
		"\"\xff\"": api.ErrUtf, `"\ud83d"`: api.ErrUtf, "9007199254740992": api.ErrNumber, `{"a":1,"a":2}`: api.ErrTwice, nested(33): api.ErrDepth, strings.Repeat("[", 33): api.ErrDepth,
		nested(32): api.ErrForm, strings.Repeat(" ", 65537): api.ErrLong, strings.Repeat(" ", 65535) + "{}": api.ErrLong, `"` + strings.Repeat("a", 65534) + `"`: api.ErrLong, "[" + strings.Repeat("1,", 32767) + "1]": api.ErrLong, `"` + strings.Repeat(`\u0001`, 10922) + `"`: api.ErrLong,
	}
}

// edge: what is signed has at most 65536 bytes.
func edge(t *testing.T, x both, dest string) {
	t.Helper()
	m := put(`""`)
	told, _, _ := requestSigned(m, x.m.name, dest)
	for more, want := range map[int]error{0: nil, 1: api.ErrLong} {
		m.Body = []byte(`"` + strings.Repeat("a", 65536-len(told)+more) + `"`)
		if _, err := x.sign(m, dest); err != want {
			t.Errorf("SignRequest of what has %d bytes: %v", 65536+more, err)
		}
	}
}

func TestCheckRequestForms(t *testing.T) {
	x, y := servers(t)
	m := put(`{"a":1}`)
	good, err := x.sign(m, "y")
	if err != nil {
		t.Fatal(err)
	}
	sig := good[len(good)-87 : len(good)-1]
	refused := func(what string, m api.Message) {
		t.Helper()
		if err := y.request(m, 5); err != api.ErrSign {
			t.Errorf("CheckRequest with %s: %v", what, err)
		}
	}
	refused("no header", m)
	refused("another header", with(m, "Authorizations", good))
	refused("two headers", authorized(authorized(m, good), good))
	refused("two headers, one empty", authorized(authorized(m, good), ""))
	refused("two headers, the first empty", authorized(authorized(m, ""), good))
	refused("two headers of other cases", with(with(authorized(m, good), "Host", "y"), "authorization", good))
	refused("three headers", authorized(authorized(authorized(m, good), good), good))
	for _, name := range []string{"Authorization", "authorization", "AUTHORIZATION", "aUTHORIZATIOn"} {
		if err := y.request(with(with(with(m, "Host", "a"), name, good), "X-Authorization", good), 5); err != nil {
			t.Errorf("CheckRequest with a header %s: %v", name, err)
		}
	}
	values := []string{
		"", " ", "X-Covey", `X-Covey origin="`, `X-Covey origin=""`, `X-Covey origin="x"`, `X-Covey origin="x",key="ed25519:1"`, `X-Covey origin="x",key="ed25519:1",sig="`,
		" " + good, good + " ", good + ",", good + `"`, good[:len(good)-1], "x-covey" + good[7:], "X-Matrix" + good[7:], "X-Covey  " + good[8:], good + good, "\t" + good, good + "\n",
		`X-Covey key="ed25519:1",origin="x",sig="` + sig + `"`, `X-Covey origin="x", key="ed25519:1", sig="` + sig + `"`, `X-Covey origin=x,key=ed25519:1,sig=` + sig, `X-Covey origin="x",key="ed25519:1",sig=` + sig, `X-Covey origin='x',key='ed25519:1',sig='` + sig + `'`,
		`X-Covey origin="x",destination="y",key="ed25519:1",sig="` + sig + `"`, `X-Covey origin="x",key="ed25519:1",sig="` + sig + `",a="b"`, `X-Covey origin="x",origin="x",key="ed25519:1",sig="` + sig + `"`, `X-Covey origin="x",key="ed25519:1",key="ed25519:1",sig="` + sig + `"`, `X-Covey origin="x",key="ed25519:1",sig="` + sig + `",sig="` + sig + `"`, "\xff",
	}
	for _, origin := range []string{"", "X", "x ", "-x", "a..b", "@a:x", "\xff", "é", `x"`, strings.Repeat("z", 65), `x",key="ed25519:1`} {
		values = append(values, header(origin, "ed25519:1", sig))
	}
	for _, key := range []string{"", "1", "ed25519:", "ed25519:a-b", "ED25519:1", "ed25519:" + strings.Repeat("Z", 17), `ed25519:1"`, "ed25519:\xff"} {
		values = append(values, header("x", key, sig))
	}
	for _, s := range []string{sig + "=", sig + "==", "A", sig[:85], sig[:85] + "B", sig + "AAA", "-" + sig[1:], "_" + sig[1:], " " + sig, sig + "\n", sig[:40] + "\n" + sig[40:], "?", "\xff", "AB", "AAB"} {
		values = append(values, header("x", "ed25519:1", s), header("w", "ed25519:1", s), header("x", "ed25519:9", s))
	}
	// Ahead of all else: whether the key is known, at whatever time, and whatever the body is.
	for _, value := range values {
		for _, at := range []int64{-1, 5, 99} {
			for _, m := range []api.Message{m, put("{")} {
				if err := y.request(authorized(m, value), at); err != api.ErrSign {
					t.Errorf("CheckRequest with the value %q at %d: %v", value, at, err)
				}
			}
		}
	}
}

// TestCheckRequestOrder: which error comes first.
func TestCheckRequestOrder(t *testing.T) {
	x, y := servers(t)
	m := put(`{"a":1}`)
	good, _ := x.sign(m, "y")
	sig := good[len(good)-87 : len(good)-1]
	for _, s := range []string{sig, "", "AA", "AAA", "AAAA", strings.Repeat("A", 86), sig + "AA", strings.Repeat("A", 2000)} {
		for _, body := range []string{"", `{"a":1}`, "{", nested(32), strings.Repeat(" ", 70000)} {
			for _, method := range []string{"PUT", "", "\xff", strings.Repeat("A", 70000)} {
				m := put(body)
				m.Method = method
				if err := y.request(authorized(m, header("w", "ed25519:1", s)), 5); err != api.ErrPeer {
					t.Errorf("CheckRequest of w: %v", err)
				}
				for _, at := range []int64{math.MinInt64, -1, 50, math.MaxInt64} {
					if err := y.request(authorized(m, header("x", "ed25519:1", s)), at); err != api.ErrKey {
						t.Errorf("CheckRequest at %d: %v", at, err)
					}
				}
				if err := y.request(authorized(m, header("x", "ed25519:3", s)), 5); err != api.ErrKey {
					t.Errorf("CheckRequest by another key: %v", err)
				}
				amiss := body == "{" || len(body) == 64 || len(body) == 70000 || method == "\xff" || len(method) == 70000
				whole := s == sig && method == "PUT" && body == `{"a":1}`
				for _, at := range []int64{0, 5, 49} {
					err := y.request(authorized(m, header("x", "ed25519:1", s)), at)
					switch {
					case amiss && err != api.ErrForm, whole && err != nil, !amiss && !whole && err != api.ErrSign:
						t.Errorf("CheckRequest of %s: %v", brief(m), err)
					}
				}
			}
		}
	}
	for body := range badBodies() {
		if err := y.request(authorized(put(body), good), 5); err != api.ErrForm {
			t.Errorf("CheckRequest with the body %.20q: %v", body, err)
		}
	}
}

// TestChangedRequests: what is signed can't be changed, what isn't can.
func TestChangedRequests(t *testing.T) {
	x, y := servers(t)
	m := put(`{"a":[1,"é"],"b":{}}`)
	s, err := x.sign(m, "y")
	if err != nil {
		t.Fatal(err)
	}
	expect := func(what string, m api.Message, want error) {
		t.Helper()
		if err := y.request(m, 5); err != want {
			t.Errorf("CheckRequest with %s: %v", what, err)
		}
	}
	m = authorized(m, s)
	expect("nothing changed", m, nil)
	for _, method := range []string{"", "POST", "put", "PUT "} {
		n := m
		n.Method = method
		expect("another method", n, api.ErrSign)
	}
	for _, target := range []string{"", "/", m.Target + "/", m.Target + "?", "/fed/v1/send/%31"} {
		n := m
		n.Target = target
		expect("another target", n, api.ErrSign)
	}
	for _, body := range []string{"", "null", "{}", `{"a":[1,"é"]}`, `{"a":["é",1],"b":{}}`, `{"a":[1,"e"],"b":{}}`, `{"a":[1,"é"],"b":[]}`} {
		n := m
		n.Body = []byte(body)
		expect("another body", n, api.ErrSign)
	}
	for _, body := range []string{` { "b" : { } , "a" : [ 1 , "\u00e9" ] } `, "{\"b\":{},\n\"a\":[1,\"é\"]}"} {
		n := m
		n.Body = []byte(body)
		expect("the same body, told otherwise", n, nil)
	}
	n := with(m, "Host", "z")
	n.Status, n.Reason = 200, "OK"
	expect("what isn't signed", n, nil)
	bare, _ := x.sign(get1(), "y")
	null := get1()
	null.Body = []byte("null")
	expect("a body of null instead of none", authorized(null, bare), api.ErrSign)
	for _, dest := range []string{"x", "z", "y.z"} {
		s, _ := x.sign(put("{}"), dest)
		expect("another destination", authorized(put("{}"), s), api.ErrSign)
	}
	url := base64.RawURLEncoding.EncodeToString
	for i := 0; ; i++ {
		n := put(fmt.Sprint(i))
		s, _ := x.sign(n, "y")
		sig, _ := fromLetters(s[len(s)-87 : len(s)-1])
		if url(sig) != letters(sig) {
			expect("the other alphabet", authorized(n, header("x", "ed25519:1", url(sig))), api.ErrSign)
			break
		}
	}
	// Another known key of the origin, another origin.
	sig := s[len(s)-87 : len(s)-1]
	expect("another key's name", authorized(put(`{"a":[1,"é"],"b":{}}`), header("x", "ed25519:2", sig)), api.ErrSign)
	expect("its own name", authorized(put(`{"a":[1,"é"],"b":{}}`), header("y", "ed25519:1", sig)), api.ErrSign)
}

// TestOwnRequest: a server knows its own key, and so takes its own request.
func TestOwnRequest(t *testing.T) {
	x, _ := servers(t)
	s, err := x.sign(put("{}"), "x")
	if err != nil {
		t.Fatal(err)
	}
	for at, want := range map[int64]error{-1: api.ErrKey, 0: nil, maxInt - 1: nil, maxInt: api.ErrKey} {
		if err := x.request(authorized(put("{}"), s), at); err != want {
			t.Errorf("CheckRequest of its own at %d: %v", at, err)
		}
	}
}

// TestRequestByLearntKey: a key that a document told counts from then on, in its window.
func TestRequestByLearntKey(t *testing.T) {
	x, _ := servers(t)
	y := keys.New(api.Config{Name: "y", Key: "ed25519:new", Seed: seed(11)})
	s, err := y.SignRequest(put("{}"), "x")
	if err != nil {
		t.Fatal(err)
	}
	m := authorized(put("{}"), s)
	if err := x.request(m, 20); err != api.ErrKey {
		t.Errorf("CheckRequest ahead of the document: %v", err)
	}
	x.take(signed(document(), "y", "ed25519:1", 1))
	for at, want := range map[int64]error{19: api.ErrKey, 20: nil, 899: nil, 900: api.ErrKey} {
		if err := x.request(m, at); err != want {
			t.Errorf("CheckRequest at %d: %v", at, err)
		}
	}
	if err := x.event(of(sealed(t, message(), "y", "ed25519:new", 11), "@al:y", 20)); err != nil {
		t.Errorf("CheckEvent by a learnt key: %v", err)
	}
}

// TestEmptyMethod: nothing is asked of what is signed but that it can be told.
func TestEmptyMethod(t *testing.T) {
	_, y := servers(t)
	told, _, _ := requestSigned(api.Message{}, "x", "y")
	sig := letters(signBytes(0, told))
	if err := y.request(authorized(api.Message{}, header("x", "ed25519:1", sig)), 5); err != nil {
		t.Errorf("CheckRequest of a request of nothing: %v", err)
	}
}
