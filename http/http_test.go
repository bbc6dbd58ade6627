package http

import (
	"slices"
	"strconv"
	"strings"
	"testing"

	"theodolite/api"
)

// lines lays 13 10 behind each of some lines.
func lines(all ...string) string {
	return strings.Join(all, "\r\n") + "\r\n"
}

// get is a request with these headers, up to its body.
func get(heads ...string) string {
	return lines(slices.Concat([]string{"GET / HTTP/1.1"}, heads, []string{""})...)
}

// root is what get is told as, with a body.
func root(body string) api.HttpRequest {
	return api.HttpRequest{Method: "GET", Path: "/", Body: body}
}

// last is what get is told as, with a body and Close.
func last(body string) api.HttpRequest {
	r := root(body)
	r.Close = true
	return r
}

// manyHeads are so many header lines that say nothing.
func manyHeads(n int) []string {
	return slices.Repeat([]string{"A: b"}, n)
}

// wants feeds a new parser with s, and says what is told otherwise.
func wants(t *testing.T, s string, e api.Errno, all ...api.HttpRequest) {
	t.Helper()
	p := New()
	got, no := p.Feed([]byte(s))
	if !slices.Equal(got, all) || no != e || p.Wrong() != e {
		t.Errorf("P22.2: Feed(%.80q): %.300v, %d and %d, wanted %.300v, %d", s, got, no, p.Wrong(), all, e)
	}
	if got, no := p.Feed([]byte(get())); e != api.OK && (len(got) != 0 || no != e || p.Wrong() != e) {
		t.Errorf("P22.2: behind %.80q: %v, %d and %d", s, got, no, p.Wrong())
	}
}

// TestNew tries parsers to which nothing was fed, and which know nothing of one another.
func TestNew(t *testing.T) {
	p, q := New(), New()
	if p == nil || p == q || p.Wrong() != api.OK || q.Wrong() != api.OK {
		t.Fatal("P22.1: New")
	}
	for _, b := range [][]byte{nil, {}} {
		if all, e := p.Feed(b); len(all) != 0 || e != api.OK {
			t.Errorf("P22.2: Feed without bytes: %v, %d", all, e)
		}
	}
	p.Feed([]byte("x\r\n"))
	if p.Wrong() != api.ErrHttpLine || q.Wrong() != api.OK || New().Wrong() != api.OK {
		t.Error("P22.3: one parser's fault is another's")
	}
	p, q = New(), New()
	p.Feed([]byte("GET /a HT"))
	q.Feed([]byte("PUT /b HT"))
	one, _ := p.Feed([]byte("TP/1.1\r\n\r\n"))
	two, _ := q.Feed([]byte("TP/1.1\r\n\r\n"))
	if len(one) != 1 || len(two) != 1 || one[0].Path != "/a" || two[0].Path != "/b" {
		t.Errorf("P22.1: two parsers: %v, %v", one, two)
	}
}

// TestExamples are the chapter's.
func TestExamples(t *testing.T) {
	wants(t, "GET /a?b=1 HTTP/1.1\r\n\r\n", api.OK, api.HttpRequest{Method: "GET", Path: "/a", Query: "b=1"})
	p := New()
	for i, c := range []struct {
		in  string
		all []api.HttpRequest
	}{
		{"POST /x HTTP/1.1\r\ncontent-length: 3\r\nConnection: close\r\n\r\nabcdef", []api.HttpRequest{{Method: "POST", Path: "/x", Body: "abc", Close: true}}},
		{"GET", nil},
		{strings.Repeat("x", 3000), nil},
		{get(), nil},
	} {
		if all, e := p.Feed([]byte(c.in)); !slices.Equal(all, c.all) || e != api.OK || p.Wrong() != api.OK {
			t.Errorf("P22.2: part %d: %v, %d", i, all, e)
		}
	}
	for head, e := range map[string]api.Errno{"a b: c": api.ErrHttpHead, "Content-Length: x": api.ErrHttpLength, "Content-Length: 99999": api.ErrHttpLarge, "transfer-encoding: chunked": api.ErrHttpHead} {
		wants(t, get(head), e)
	}
	p = New()
	for i, c := range []struct {
		in  string
		all []api.HttpRequest
		e   api.Errno
	}{
		{"GET / HTTP/1.1\r\n", nil, api.OK},
		{"\r\nGET x", []api.HttpRequest{root("")}, api.OK},
		{" HTTP/1.1\r\n", nil, api.ErrHttpLine},
	} {
		if all, e := p.Feed([]byte(c.in)); !slices.Equal(all, c.all) || e != c.e || p.Wrong() != e {
			t.Errorf("P22.2: part %d: %v, %d", i, all, e)
		}
	}
}

// TestFirstLine tries first lines that have the form.
func TestFirstLine(t *testing.T) {
	long := strings.Repeat("t", 1024-len("GET / HTTP/1.1"))
	for line, want := range map[string]api.HttpRequest{
		"A / HTTP/1.1":                {Method: "A", Path: "/"},
		"ABCDEFGHIJKLMNOP / HTTP/1.1": {Method: "ABCDEFGHIJKLMNOP", Path: "/"},
		"Z // HTTP/1.1":               {Method: "Z", Path: "//"},
		"GET /!~ HTTP/1.1":            {Method: "GET", Path: "/!~"},
		"GET /a/b%20c HTTP/1.1":       {Method: "GET", Path: "/a/b%20c"},
		"GET /? HTTP/1.1":             {Method: "GET", Path: "/"},
		"GET /a?b HTTP/1.1":           {Method: "GET", Path: "/a", Query: "b"},
		"GET /a?b?c?? HTTP/1.1":       {Method: "GET", Path: "/a", Query: "b?c??"},
		"GET /?? HTTP/1.1":            {Method: "GET", Path: "/", Query: "?"},
		"GET /HTTP/1.1 HTTP/1.1":      {Method: "GET", Path: "/HTTP/1.1"},
		"GET /" + long + " HTTP/1.1":  {Method: "GET", Path: "/" + long},
	} {
		wants(t, lines(line, ""), api.OK, want)
	}
}

// TestFirstLineWrong tries first lines that have not.
func TestFirstLineWrong(t *testing.T) {
	for _, line := range []string{
		"", " ", "x", "GET", "GET ", "GET /", "GET / ", "GET  / HTTP/1.1", "GET /  HTTP/1.1", " GET / HTTP/1.1", "GET / HTTP/1.1 ", "GET / HTTP/1.1\r",
		"GET / HTTP/1.0", "GET / HTTP/1.10", "GET / HTTP/1.", "GET / http/1.1", "GET / HTTP/1.1 HTTP/1.1", "GET /a b HTTP/1.1",
		"get / HTTP/1.1", "GeT / HTTP/1.1", "G-T / HTTP/1.1", "G1 / HTTP/1.1", "@ / HTTP/1.1", "[ / HTTP/1.1", " / HTTP/1.1", "ABCDEFGHIJKLMNOPQ / HTTP/1.1", "\xc0 / HTTP/1.1",
		"GET x HTTP/1.1", "GET  HTTP/1.1", "GET ?a HTTP/1.1", "GET a/ HTTP/1.1", "GET * HTTP/1.1", "GET http://a/ HTTP/1.1",
		"GET /\x7f HTTP/1.1", "GET /\x80 HTTP/1.1", "GET /\x1f HTTP/1.1", "GET /\t HTTP/1.1", "GET /\x00 HTTP/1.1", "GET /é HTTP/1.1", "GET /a?\x7f HTTP/1.1",
		"GET /\r HTTP/1.1", "GET /\n HTTP/1.1", "GET\t/ HTTP/1.1", "\nGET / HTTP/1.1", "\rGET / HTTP/1.1", "GET / HTTP/1.1\n\n",
		strings.Repeat("x", 1024), strings.Repeat("\r", 1024), strings.Repeat("\n", 1024),
	} {
		wants(t, lines(line), api.ErrHttpLine)
		wants(t, get()+lines(line, ""), api.ErrHttpLine, root(""))
		wants(t, "GET / HTTP/1.1\r\nContent-Length: 2\r\n\r\n\r\n"+lines(line, ""), api.ErrHttpLine, root("\r\n"))
	}
}

// TestWhole tries lines that are wrong, but not whole: nothing is said of them yet.
func TestWhole(t *testing.T) {
	for _, s := range []string{
		"", "x", "\r", "\n", "\n\n\n", "GET / HTTP/1.1", "GET / HTTP/1.1\n\n", "get / HTTP/1.1\r", strings.Repeat("x", 1025), strings.Repeat("\r", 1025),
		"GET / HTTP/1.1\r\n", "GET / HTTP/1.1\r\n\r", "GET / HTTP/1.1\r\n\n", "GET / HTTP/1.1\r\nx", "GET / HTTP/1.1\r\nTransfer-Encoding: x\r", "GET / HTTP/1.1\r\n" + strings.Repeat("\n", 1025),
		lines("GET / HTTP/1.1", "Content-Length: 1", ""), lines("GET / HTTP/1.1", "Content-Length: 5", "") + "abcd",
		lines(append([]string{"GET / HTTP/1.1"}, manyHeads(32)...)...) + "A: b\r",
	} {
		wants(t, s, api.OK)
		wants(t, get()+s, api.OK, root(""))
	}
}

// TestLong tries lines at the bound, first ones, headers, and those behind others.
func TestLong(t *testing.T) {
	for _, ahead := range []string{"", get(), "GET / HTTP/1.1\r\n", "GET / HTTP/1.1\r\nA: b\r\n", "GET / HTTP/1.1\r\nContent-Length: 3\r\n\r\nabc"} {
		all, _ := plainFed(ahead)
		for _, c := range []string{"x", "\r", "\n", " "} {
			long := strings.Repeat(c, 1025)
			wants(t, ahead+long, api.OK, all...)
			for _, end := range []string{"\r", "x", "\x00", "\r\n", "\r\n\r\n"} {
				wants(t, ahead+long+end, api.ErrHttpLarge, all...)
			}
		}
	}
	most := "A:" + strings.Repeat("v", 1022)
	wants(t, get(most, most), api.OK, root(""))
	wants(t, get(most+"v"), api.ErrHttpLarge)
	wants(t, lines("GET / HTTP/1.1", most)+strings.Repeat(" ", 1026), api.ErrHttpLarge)
	wants(t, lines("GET /"+strings.Repeat("t", 1011)+" HTTP/1.1", ""), api.ErrHttpLarge)
	wants(t, "GET / HTTP/1.1\r\nA:"+strings.Repeat("v", 1021)+"\r\r\n", api.ErrHttpHead)
	wants(t, "GET / HTTP/1.1\r\nA:"+strings.Repeat("v", 1022)+"\r\r\n", api.ErrHttpLarge)
}

// TestHeaders tries header lines that have the form, and say nothing.
func TestHeaders(t *testing.T) {
	for _, head := range []string{
		"A:", "a:b", "z: ", "Z:  b  c  ", "0:", "9:", "-:", "a-Z-0:~", "A::", "A: : ", "A:b:c", strings.Repeat("n", 64) + ":", "Host: x", "A:! ~",
		"Connection:", "Connection: keep-alive", "Connection: Close", "Connection: CLOSE", "Connection: close,", "Connection: close x", "Connections: close", "Connectio: close", "Connection-: close", "-Connection: close",
		"Content-Length-: 3", "Content-Lengt: 3", "ContentLength: 3", "Content--Length: 3", "X: Content-Length: 3", "X: Transfer-Encoding", "Transfer-Encodin: x", "Transfer-Encodings: x", "TransferEncoding: x",
	} {
		wants(t, get(head), api.OK, root(""))
		wants(t, get(head, head)+get(), api.OK, root(""), root(""))
	}
}

// TestHeadersWrong tries header lines that have not the form, or may not come.
func TestHeadersWrong(t *testing.T) {
	for _, head := range []string{
		"a", ":", ":b", "a b: c", " a: b", "a : b", "a\t: b", "a_b: c", "a/b: c", "a.b:", "@:", "[:", "`:", "{:", "é: x", "a\x00:", "\xff:", "a;b", " ", "\t", "\r", "\n", "\nA: b", "A: b\r", "A: b\rB: c", "A: b\nB: c",
		"A: \x1f", "A: \x7f", "A: \x80", "A:\t", "A: é", "A:\x00", strings.Repeat("n", 65) + ":", strings.Repeat("n", 65) + ": x", "GET / HTTP/1.1", "GET /: HTTP/1.1",
		"Transfer-Encoding: chunked", "transfer-encoding:", "TRANSFER-ENCODING: identity", "tRANSFER-eNCODING:x",
		"Content-Length : 3", "Content-Length", "Content-Length: 3\t", "Content-Length: \x7f", "Connection: close\x7f",
	} {
		wants(t, get(head), api.ErrHttpHead)
		wants(t, get("A: b", "Content-Length: 3", head)+"abc", api.ErrHttpHead)
		wants(t, get()+get("Connection: close", head), api.ErrHttpHead, root(""))
	}
}

// TestManyHeaders tries as many header lines as may be, and one more.
func TestManyHeaders(t *testing.T) {
	wants(t, get(manyHeads(31)...), api.OK, root(""))
	wants(t, get(manyHeads(32)...), api.OK, root(""))
	wants(t, get(manyHeads(32)...)+get(manyHeads(32)...), api.OK, root(""), root(""))
	wants(t, get(append(manyHeads(31), "Content-Length: 2")...)+"ab"+get(manyHeads(32)...), api.OK, root("ab"), root(""))
	for _, head := range []string{"A: b", "x", "Content-Length: 3", "Content-Length: x", "Content-Length: 99999", "Connection: close", "Transfer-Encoding: x"} {
		wants(t, get(append(manyHeads(32), head)...), api.ErrHttpHead)
		wants(t, get()+get(append(manyHeads(32), head)...), api.ErrHttpHead, root(""))
	}
	wants(t, lines(append([]string{"GET / HTTP/1.1"}, manyHeads(32)...)...)+strings.Repeat("x", 1026), api.ErrHttpLarge)
	wants(t, lines(append([]string{"GET / HTTP/1.1"}, manyHeads(33)...)...), api.ErrHttpHead)
	wants(t, get(append(manyHeads(31), "Content-Length: x")...), api.ErrHttpLength)
}

// TestLength tries lengths of bodies.
func TestLength(t *testing.T) {
	big := strings.Repeat("b", 16384)
	for head, body := range map[string]string{
		"Content-Length: 0": "", "Content-Length:0": "", "Content-Length: 000000000": "", "content-length: 1": "x", "CONTENT-LENGTH:  2  ": "\r\n", "Content-Length: 000000003": "abc", "cONTENT-lENGTH:04": "GET ", "Content-Length: 12": "\x00\xff\r\n\r\nGET / ",
		"Content-Length: 16384": big, "Content-Length: 000016384": big, "Content-Length: 16383": big[1:],
	} {
		wants(t, get(head)+body, api.OK, root(body))
		wants(t, get("A: b", head, "A: b")+body+get(), api.OK, root(body), root(""))
		wants(t, get(head)+body+"\r\n", api.ErrHttpLine, root(body))
		wants(t, get(head, "Connection: close")+body+"\r\n", api.OK, last(body))
		if body != "" {
			wants(t, get(head)+body[1:], api.OK)
		}
	}
	for _, method := range []string{"POST", "HEAD", "DELETE", "X"} {
		wants(t, lines(method+" /?a HTTP/1.1", "Content-Length: 2", "")+"ab", api.OK, api.HttpRequest{Method: method, Path: "/", Query: "a", Body: "ab"})
	}
}

// TestLengthWrong tries lengths that may not be.
func TestLengthWrong(t *testing.T) {
	for _, value := range []string{"", " ", "x", "1x", "x1", "-1", "+1", "1 2", "1,2", "1.", "0x1", "1_0", "0000000000", "0000000001", "1234567890", "99999999999999999999", "18446744073709551616", "/", ":"} {
		wants(t, get("Content-Length: "+value)+"abc", api.ErrHttpLength)
		wants(t, get()+get("A: b", "content-length:"+value), api.ErrHttpLength, root(""))
	}
	for _, value := range []string{"16385", "000016385", "20000", "99999", "999999999"} {
		wants(t, get("Content-Length: "+value), api.ErrHttpLarge)
		wants(t, get()+lines("GET / HTTP/1.1", "Content-Length: "+value), api.ErrHttpLarge, root(""))
	}
	for _, value := range []string{"3", "0", "x", "", "99999"} {
		wants(t, get("Content-Length: 3", "Content-Length: "+value)+"abc", api.ErrHttpLength)
		wants(t, get("Content-Length: 0", "A: b", "content-length: "+value)+"abc", api.ErrHttpLength)
	}
	wants(t, get("Content-Length: 1")+"a"+get("Content-Length: 1")+"b", api.OK, root("a"), root("b"))
	wants(t, get("Content-Length: 1")+"a"+get()+"b\r\n", api.ErrHttpLine, root("a"), root(""))
}

// TestClose tries what ends a connection.
func TestClose(t *testing.T) {
	for _, head := range []string{"Connection: close", "connection:close", "CONNECTION:    close   "} {
		for _, behind := range []string{"", "x", "\r\n", get(), strings.Repeat("x", 2000)} {
			wants(t, get(head)+behind, api.OK, last(""))
			wants(t, get("Connection: x", head, "Connection: keep-alive")+behind, api.OK, last(""))
			wants(t, get()+get(head, head)+behind, api.OK, root(""), last(""))
			wants(t, get(head, "Content-Length: 4")+"abcd"+behind, api.OK, last("abcd"))
			wants(t, get("Content-Length: 4", head)+"abcd"+behind, api.OK, last("abcd"))
		}
		wants(t, get(head, "x"), api.ErrHttpHead)
		wants(t, get(head, "Content-Length: 99999"), api.ErrHttpLarge)
		wants(t, get(head, "Content-Length: 4")+"abc", api.OK)
	}
	p := New()
	p.Feed([]byte(get("Connection: close", "Content-Length: 3") + "ab"))
	if all, e := p.Feed([]byte("cx\r\n")); !slices.Equal(all, []api.HttpRequest{last("abc")}) || e != api.OK {
		t.Errorf("P22.2: %v, %d", all, e)
	}
	for range 3 {
		if all, e := p.Feed([]byte("x\r\n" + strings.Repeat("x", 2000))); len(all) != 0 || e != api.OK || p.Wrong() != api.OK {
			t.Errorf("P22.2: behind Close: %v, %d", all, e)
		}
	}
}

// TestSeveral tries requests one right behind the other, and what is wrong behind them.
func TestSeveral(t *testing.T) {
	wants(t, strings.Repeat(get(), 3), api.OK, root(""), root(""), root(""))
	wants(t, strings.Repeat(get("Content-Length: 2")+"ab", 3), api.OK, root("ab"), root("ab"), root("ab"))
	wants(t, lines("PUT /a?x=1 HTTP/1.1", "Content-Length: 1", "")+"z"+get()+get("A: b"), api.OK, api.HttpRequest{Method: "PUT", Path: "/a", Query: "x=1", Body: "z"}, root(""), root(""))
	wants(t, get()+get()+"\r\n"+get(), api.ErrHttpLine, root(""), root(""))
	wants(t, get()+get(":")+get(), api.ErrHttpHead, root(""))
	wants(t, get()+get("Content-Length: 5")+"abcd", api.OK, root(""))
	if all, e := New().Feed([]byte(strings.Repeat(get(), 20000))); len(all) != 20000 || e != api.OK {
		t.Errorf("P22.2: %d requests, %d", len(all), e)
	}
}

// TestWrong asks what is wrong ahead of it, at it, and behind it.
func TestWrong(t *testing.T) {
	for s, e := range map[string]api.Errno{"x\r\n": api.ErrHttpLine, "GET / HTTP/1.1\r\nx\r\n": api.ErrHttpHead, "GET / HTTP/1.1\r\nContent-Length:\r\n": api.ErrHttpLength, strings.Repeat("x", 1026): api.ErrHttpLarge} {
		p := New()
		p.Feed([]byte(get() + s[:len(s)-1]))
		if p.Wrong() != api.OK {
			t.Errorf("P22.3: ahead of the end of %.40q: %d", s, p.Wrong())
		}
		p.Feed([]byte(s[len(s)-1:]))
		for range 3 {
			if p.Wrong() != e {
				t.Errorf("P22.3: behind %.40q: %d", s, p.Wrong())
			}
			for _, b := range []string{"", "x\r\n", get(), strings.Repeat("y", 3000)} {
				if all, no := p.Feed([]byte(b)); len(all) != 0 || no != e {
					t.Errorf("P22.2: behind %.40q: %v, %d", s, all, no)
				}
			}
		}
	}
}

// TestParts feeds some bytes in any two and any three parts (P22.7).
func TestParts(t *testing.T) {
	all := lines("POST /p?q HTTP/1.1", "Content-Length: 4", "A:", "") + "\r\n\r\n" + get("Connection: x") + "GET\r\n"
	want := []api.HttpRequest{{Method: "POST", Path: "/p", Query: "q", Body: "\r\n\r\n"}, root("")}
	for i := range len(all) + 1 {
		for j := range i + 1 {
			p := New()
			var got []api.HttpRequest
			for _, part := range []string{all[:j], all[j:i], all[i:]} {
				some, e := p.Feed([]byte(part))
				got = append(got, some...)
				if e != p.Wrong() {
					t.Fatalf("P22.3: %d, but %d", p.Wrong(), e)
				}
			}
			if !slices.Equal(got, want) || p.Wrong() != api.ErrHttpLine {
				t.Fatalf("P22.7: cut at %d and %d: %v, %d", j, i, got, p.Wrong())
			}
		}
	}
}

// TestNone calls what New has not given (R3).
func TestNone(t *testing.T) {
	for i, p := range []*Parser{nil, {}} {
		for _, s := range []string{"", get(), "x\r\n"} {
			if all, e := p.Feed([]byte(s)); all != nil || e != api.ErrNil {
				t.Errorf("R3: parser %d: %v, %d", i, all, e)
			}
		}
		if e := p.Wrong(); e != api.ErrNil {
			t.Errorf("R3: parser %d: %d", i, e)
		}
	}
}

// TestNotKept writes into what was fed, and into what was told, and looks at what was fed (R2).
func TestNotKept(t *testing.T) {
	s := lines("POST /path?query HTTP/1.1", "Content-Length: 4", "") + "body" + get()[:5]
	room := []byte(s + "spare room")
	fed := room[:len(s)]
	p := New()
	first, _ := p.Feed(fed)
	if string(room) != s+"spare room" {
		t.Errorf("R2: what was fed is %q", room)
	}
	for i := range room {
		room[i] = 'x'
	}
	if want := (api.HttpRequest{Method: "POST", Path: "/path", Query: "query", Body: "body"}); first[0] != want {
		t.Errorf("R2: %v", first[0])
	}
	second, e := p.Feed([]byte(get()[5:] + get()))
	if !slices.Equal(second, []api.HttpRequest{root(""), root("")}) || e != api.OK {
		t.Errorf("R2: %v, %d", second, e)
	}
	second[0], second[1] = api.HttpRequest{}, api.HttpRequest{}
	if third, _ := p.Feed([]byte(get() + get())); !slices.Equal(third, []api.HttpRequest{root(""), root("")}) || second[0] != (api.HttpRequest{}) {
		t.Errorf("R2: %v, %v", third, second)
	}
	b, _ := Print(api.HttpResponse{Code: 200, Body: "abc"})
	c, _ := Print(api.HttpResponse{Code: 200, Body: "abc"})
	b[0] = 'x'
	if c[0] != 'H' {
		t.Error("R2: two calls of Print tell the same bytes")
	}
	r, _, _ := Read(c)
	for i := range c {
		c[i] = 'y'
	}
	if r.Body != "abc" {
		t.Errorf("R2: %q", r.Body)
	}
}

// TestPrint tries responses that may be.
func TestPrint(t *testing.T) {
	for want, r := range map[string]api.HttpResponse{
		"HTTP/1.1 200 OK\r\nContent-Length: 0\r\n\r\n":                                                        {Code: 200},
		"HTTP/1.1 400 Bad Request\r\nContent-Length: 3\r\nConnection: close\r\n\r\nabc":                       {Code: 400, Body: "abc", Close: true},
		"HTTP/1.1 404 Not Found\r\nContent-Length: 2\r\n\r\n{}":                                               {Code: 404, Body: "{}"},
		"HTTP/1.1 405 Method Not Allowed\r\nContent-Length: 4\r\n\r\n\r\n\r\n":                                {Code: 405, Body: "\r\n\r\n"},
		"HTTP/1.1 413 Payload Too Large\r\nContent-Length: 1\r\nConnection: close\r\n\r\n\x00":                {Code: 413, Body: "\x00", Close: true},
		"HTTP/1.1 503 Service Unavailable\r\nContent-Length: 2\r\n\r\n\xff\xfe":                               {Code: 503, Body: "\xff\xfe"},
		"HTTP/1.1 507 Insufficient Storage\r\nContent-Length: 10\r\nConnection: close\r\n\r\n" + "0123456789": {Code: 507, Body: "0123456789", Close: true},
		"HTTP/1.1 200 OK\r\nContent-Length: 65536\r\n\r\n" + strings.Repeat("b", 65536):                       {Code: 200, Body: strings.Repeat("b", 65536)},
	} {
		if b, e := Print(r); string(b) != want || e != api.OK {
			t.Errorf("P22.4: %.100q, %d, wanted %.100q", b, e, want)
		}
		for _, behind := range []string{"", "x", "\r\n", want} {
			if got, n, e := Read([]byte(want + behind)); got != r || n != len(want) || e != api.OK {
				t.Errorf("P22.5: %.100q and %.10q: %.100v, %d, %d", want, behind, got, n, e)
			}
		}
		for n := range min(len(want), 200) {
			if got, n, e := Read([]byte(want[:n])); got != (api.HttpResponse{}) || n != 0 || e != api.ErrHttpLine {
				t.Errorf("P22.5: %.100q: %.100v, %d, %d", want[:n], got, n, e)
			}
		}
	}
}

// TestPrintWrong tries responses that may not be: all other codes, and a body that is too long.
func TestPrintWrong(t *testing.T) {
	long := strings.Repeat("b", 65537)
	for code := -1000; code <= 1000; code++ {
		e := api.ErrArg
		if slices.Contains([]int{200, 400, 404, 405, 413, 503, 507}, code) {
			e = api.ErrLong
		}
		if b, no := Print(api.HttpResponse{Code: code, Body: long}); b != nil || no != e {
			t.Errorf("P22.4: code %d and a long body: %d bytes, %d", code, len(b), no)
		}
		if b, no := Print(api.HttpResponse{Code: code}); e == api.ErrArg && (b != nil || no != e) {
			t.Errorf("P22.4: code %d: %q, %d", code, b, no)
		}
	}
	for _, code := range []int{1 << 40, -1 << 63, 1<<63 - 1, 200 + 1<<32, 200 + 1<<62} {
		if b, e := Print(api.HttpResponse{Code: code}); b != nil || e != api.ErrArg {
			t.Errorf("P22.4: code %d: %q, %d", code, b, e)
		}
	}
}

// TestReadWrong tries bytes that Print tells of no response.
func TestReadWrong(t *testing.T) {
	big := strings.Repeat("b", 65537)
	for _, s := range []string{
		"", "\r\n\r\n", "x", "HTTP/1.1", "HTTP/1.1 200 OK", "HTTP/1.1 200 OK\r\n\r\n", "HTTP/1.1 200 OK\r\nContent-Length: 0\r\n", "HTTP/1.1 200 OK\r\nContent-Length: 0\r\n\r", "Content-Length: 0\r\n\r\n",
		"HTTP/1.0 200 OK\r\nContent-Length: 0\r\n\r\n", "http/1.1 200 OK\r\nContent-Length: 0\r\n\r\n", " HTTP/1.1 200 OK\r\nContent-Length: 0\r\n\r\n", "\r\nHTTP/1.1 200 OK\r\nContent-Length: 0\r\n\r\n",
		"HTTP/1.1 201 Created\r\nContent-Length: 0\r\n\r\n", "HTTP/1.1 201 \r\nContent-Length: 0\r\n\r\n", "HTTP/1.1 0 \r\nContent-Length: 0\r\n\r\n", "HTTP/1.1 200 Bad Request\r\nContent-Length: 0\r\n\r\n", "HTTP/1.1 200 ok\r\nContent-Length: 0\r\n\r\n", "HTTP/1.1 200 OK \r\nContent-Length: 0\r\n\r\n", "HTTP/1.1  200 OK\r\nContent-Length: 0\r\n\r\n", "HTTP/1.1 200  OK\r\nContent-Length: 0\r\n\r\n", "HTTP/1.1 0200 OK\r\nContent-Length: 0\r\n\r\n", "HTTP/1.1 +200 OK\r\nContent-Length: 0\r\n\r\n", "HTTP/1.1 200\r\nContent-Length: 0\r\n\r\n", "HTTP/1.1 20 0 OK\r\nContent-Length: 0\r\n\r\n",
		"HTTP/1.1 200 OK\r\nContent-Length: \r\n\r\n", "HTTP/1.1 200 OK\r\nContent-Length: 00\r\n\r\n", "HTTP/1.1 200 OK\r\nContent-Length: 01\r\n\r\nx", "HTTP/1.1 200 OK\r\nContent-Length: +1\r\n\r\nx", "HTTP/1.1 200 OK\r\nContent-Length: -1\r\n\r\nx", "HTTP/1.1 200 OK\r\nContent-Length: -0\r\n\r\nx", "HTTP/1.1 200 OK\r\nContent-Length: x\r\n\r\nx", "HTTP/1.1 200 OK\r\nContent-Length: 1 \r\n\r\nx", "HTTP/1.1 200 OK\r\nContent-Length:  1\r\n\r\nx", "HTTP/1.1 200 OK\r\nContent-Length:1\r\n\r\nx", "HTTP/1.1 200 OK\r\ncontent-length: 1\r\n\r\nx", "HTTP/1.1 200 OK\r\n1\r\n\r\nx", "HTTP/1.1 200 OK\r\nContent-Length: 0x1\r\n\r\nx",
		"HTTP/1.1 200 OK\r\nContent-Length: 2\r\n\r\nx", "HTTP/1.1 200 OK\r\nContent-Length: 65537\r\n\r\n" + big, "HTTP/1.1 200 OK\r\nContent-Length: 65536\r\n\r\n" + big[2:], "HTTP/1.1 200 OK\r\nContent-Length: 99999999999999999999\r\n\r\n" + big, "HTTP/1.1 200 OK\r\nContent-Length: -99999999999999999999\r\n\r\n" + big, "HTTP/1.1 200 OK\r\nContent-Length: 9223372036854775807\r\n\r\n" + big,
		"HTTP/1.1 200 OK\r\nConnection: close\r\nContent-Length: 0\r\n\r\n", "HTTP/1.1 200 OK\r\nConnection: close\r\n\r\n", "HTTP/1.1 200 OK\r\nContent-Length: 0\r\nConnection: Close\r\n\r\n", "HTTP/1.1 200 OK\r\nContent-Length: 0\r\nConnection:close\r\n\r\n", "HTTP/1.1 200 OK\r\nContent-Length: 0\r\nConnection: keep-alive\r\n\r\n", "HTTP/1.1 200 OK\r\nContent-Length: 0\r\nConnection: close\r\nConnection: close\r\n\r\n", "HTTP/1.1 200 OK\r\nContent-Length: 0\r\nConnection: close\r\nA: b\r\n\r\n", "HTTP/1.1 200 OK\r\nContent-Length: 0\r\nContent-Length: 0\r\n\r\n", "HTTP/1.1 200 OK\r\nContent-Length: 0\r\nA: b\r\n\r\n",
		"HTTP/1.1 200 OK\nContent-Length: 0\n\n", "HTTP/1.1 200 OK\r\nContent-Length: 0\n\r\n\r\n", "HTTP/1.1 200 OK\r\r\nContent-Length: 0\r\n\r\n", "HTTP/1.1 200 OK\r\nContent-Length: 0\r\n\n\r\n", strings.Repeat("\r\n", 10), strings.Repeat("HTTP/1.1 200 OK\r\n", 10), get(), strings.Repeat("x", 100000),
	} {
		if r, n, e := Read([]byte(s)); r != (api.HttpResponse{}) || n != 0 || e != api.ErrHttpLine {
			t.Errorf("P22.5: Read(%.100q): %.100v, %d, %d", s, r, n, e)
		}
	}
	if r, n, e := Read(nil); r != (api.HttpResponse{}) || n != 0 || e != api.ErrHttpLine {
		t.Errorf("P22.5: Read of nothing: %v, %d, %d", r, n, e)
	}
}

// TestReadSeveral reads responses one behind the other.
func TestReadSeveral(t *testing.T) {
	all := []api.HttpResponse{{Code: 200, Body: "a"}, {Code: 503, Body: "HTTP/1.1 200 OK\r\n"}, {Code: 404}, {Code: 413, Body: "{}", Close: true}}
	var b []byte
	for _, r := range all {
		printed, _ := Print(r)
		b = append(b, printed...)
	}
	for i, want := range all {
		r, n, e := Read(b)
		if r != want || e != api.OK {
			t.Fatalf("P22.7: response %d: %v, %d", i, r, e)
		}
		b = b[n:]
	}
	if len(b) != 0 {
		t.Errorf("P22.7: %d bytes are left", len(b))
	}
}

// manyFields are so many fields.
func manyFields(n int) string {
	var parts []string
	for i := range n {
		parts = append(parts, "n"+strconv.Itoa(i)+"=v"+strconv.Itoa(i))
	}
	return strings.Join(parts, "&")
}

// TestFields tries queries that have the form.
func TestFields(t *testing.T) {
	for query, want := range map[string][2]string{
		"a=1&b=": {"a b", "1,"}, "a=": {"a", ""}, "a=1": {"a", "1"}, "a=1=2": {"a", "1=2"}, "a==": {"a", "="}, "b=1&a=2&B=3": {"b a B", "1,2,3"}, "a=x&aa=y&b=x": {"a aa b", "x,y,x"}, "a=b?c": {"a", "b?c"}, "%41=%20+": {"%41", "%20+"}, "?=/": {"?", "/"}, "\x00=\xff": {"\x00", "\xff"}, "a=;b=2": {"a", ";b=2"},
	} {
		names, values, e := Fields(query)
		if !slices.Equal(names, strings.Fields(want[0])) || !slices.Equal(values, strings.Split(want[1], ",")) || e != api.OK {
			t.Errorf("P22.6: Fields(%q): %q, %q, %d", query, names, values, e)
		}
	}
	if names, values, e := Fields(""); len(names) != 0 || len(values) != 0 || e != api.OK {
		t.Errorf("P22.6: Fields of nothing: %q, %q, %d", names, values, e)
	}
	if names, values, e := Fields(manyFields(32)); len(names) != 32 || len(values) != 32 || names[31] != "n31" || values[31] != "v31" || e != api.OK {
		t.Errorf("P22.6: 32 fields: %q, %q, %d", names, values, e)
	}
}

// TestFieldsWrong tries queries that have not.
func TestFieldsWrong(t *testing.T) {
	for query, want := range map[string]api.Errno{
		"a": api.ErrHttpLine, "=": api.ErrHttpLine, "=1": api.ErrHttpLine, "==": api.ErrHttpLine, "&": api.ErrHttpLine, "a=1&": api.ErrHttpLine, "&a=1": api.ErrHttpLine, "a=1&&b=2": api.ErrHttpLine, "a=1&b": api.ErrHttpLine, "a&b=1": api.ErrHttpLine, "a=1&=2": api.ErrHttpLine,
		"a=1&a=2": api.ErrHttpLine, "a=1&a=1": api.ErrHttpLine, "a=1&b=2&a=3": api.ErrHttpLine, "a=&a=": api.ErrHttpLine, "a=&a==": api.ErrHttpLine,
		manyFields(33): api.ErrHttpLarge, manyFields(100): api.ErrHttpLarge, manyFields(32) + "&": api.ErrHttpLarge, manyFields(31) + "&x": api.ErrHttpLine, manyFields(31) + "&n0=": api.ErrHttpLine,
		strings.Repeat("&", 31): api.ErrHttpLine, strings.Repeat("&", 32): api.ErrHttpLarge, strings.Repeat("a=1&", 31): api.ErrHttpLine, strings.Repeat("a=1&", 32): api.ErrHttpLarge, "x&" + manyFields(32): api.ErrHttpLarge,
	} {
		if names, values, e := Fields(query); names != nil || values != nil || e != want {
			t.Errorf("P22.6: Fields(%.60q): %q, %q, %d, wanted %d", query, names, values, e, want)
		}
	}
}
