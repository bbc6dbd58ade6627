package http

import (
	"fmt"
	"regexp"
	"slices"
	"strconv"
	"strings"
	"testing"

	"theodolite/api"
)

// This file says the chapter anew, in other ways than the package's, to hold the package against it.

// The forms of lines.
var (
	plainFirst  = regexp.MustCompile(`\A([A-Z]{1,16}) (/[!-~]*) HTTP/1\.1\z`)
	plainHeader = regexp.MustCompile(`\A([a-zA-Z0-9-]{1,64}):([ -~]*)\z`)
	plainDigits = regexp.MustCompile(`\A[0-9]{1,9}\z`)
	plainHead   = regexp.MustCompile(`\AHTTP/1\.1 (200 OK|400 Bad Request|404 Not Found|405 Method Not Allowed|413 Payload Too Large|503 Service Unavailable|507 Insufficient Storage)\r\nContent-Length: (0|[1-9][0-9]{0,4})\r\n(Connection: close\r\n)?\r\n`)
)

// plainLine tells the line that s begins with, what stands behind it, and whether it is whole; or that it is too long.
func plainLine(s string) (line, rest string, whole bool, e api.Errno) {
	line, rest, whole = strings.Cut(s, "\r\n")
	if whole && len(line) <= 1024 {
		return line, rest, true, api.OK
	}
	if len(s) >= 1026 {
		return "", "", false, api.ErrHttpLarge
	}
	return "", "", false, api.OK
}

// plainRequest tells the request that s begins with, what stands behind it, and whether it is whole; or what is wrong.
func plainRequest(s string) (r api.HttpRequest, rest string, whole bool, e api.Errno) {
	line, s, whole, e := plainLine(s)
	if !whole || e != api.OK {
		return r, "", false, e
	}
	first := plainFirst.FindStringSubmatch(line)
	if first == nil {
		return r, "", false, api.ErrHttpLine
	}
	r.Method, r.Path = first[1], first[2]
	if mark := strings.IndexByte(first[2], '?'); mark >= 0 {
		r.Path, r.Query = first[2][:mark], first[2][mark+1:]
	}
	length := -1
	for heads := 0; ; heads++ {
		line, s, whole, e = plainLine(s)
		if !whole || e != api.OK {
			return r, "", false, e
		}
		if line == "" {
			break
		}
		head := plainHeader.FindStringSubmatch(line)
		if head == nil || heads == 32 || strings.EqualFold(head[1], "Transfer-Encoding") {
			return r, "", false, api.ErrHttpHead
		}
		value := regexp.MustCompile(`\A +| +\z`).ReplaceAllString(head[2], "")
		if strings.EqualFold(head[1], "Content-Length") {
			if length >= 0 || !plainDigits.MatchString(value) {
				return r, "", false, api.ErrHttpLength
			}
			length, _ = strconv.Atoi(value)
			if length > 16384 {
				return r, "", false, api.ErrHttpLarge
			}
		}
		if strings.EqualFold(head[1], "Connection") && value == "close" {
			r.Close = true
		}
	}
	length = max(length, 0)
	if len(s) < length {
		return r, "", false, api.OK
	}
	r.Body = s[:length]
	return r, s[length:], true, api.OK
}

// plainFed tells all requests of the bytes that were fed, and what is wrong.
func plainFed(s string) ([]api.HttpRequest, api.Errno) {
	var all []api.HttpRequest
	for {
		r, rest, whole, e := plainRequest(s)
		if !whole {
			return all, e
		}
		all = append(all, r)
		if r.Close {
			return all, api.OK
		}
		s = rest
	}
}

// plainRead is P22.5.
func plainRead(s string) (api.HttpResponse, int, api.Errno) {
	head := plainHead.FindStringSubmatch(s)
	if head == nil {
		return api.HttpResponse{}, 0, api.ErrHttpLine
	}
	code, _ := strconv.Atoi(head[1][:3])
	length, _ := strconv.Atoi(head[2])
	s = s[len(head[0]):]
	if length > 65536 || len(s) < length {
		return api.HttpResponse{}, 0, api.ErrHttpLine
	}
	return api.HttpResponse{Code: code, Body: s[:length], Close: head[3] != ""}, len(head[0]) + length, api.OK
}

// plainPrint is P22.4 of a response that may be.
func plainPrint(r api.HttpResponse) string {
	words := map[int]string{200: "OK", 400: "Bad Request", 404: "Not Found", 405: "Method Not Allowed", 413: "Payload Too Large", 503: "Service Unavailable", 507: "Insufficient Storage"}
	closes := map[bool]string{true: "Connection: close\r\n"}
	return fmt.Sprintf("HTTP/1.1 %d %s\r\nContent-Length: %d\r\n%s\r\n%s", r.Code, words[r.Code], len(r.Body), closes[r.Close], r.Body)
}

// plainFields is P22.6.
func plainFields(query string) (names, values []string, e api.Errno) {
	if query == "" {
		return nil, nil, api.OK
	}
	parts := strings.Split(query, "&")
	if len(parts) > 32 {
		return nil, nil, api.ErrHttpLarge
	}
	form := regexp.MustCompile(`\A(?s:([^=]+)=(.*))\z`)
	for _, part := range parts {
		field := form.FindStringSubmatch(part)
		if field == nil || slices.Contains(names, field[1]) {
			return nil, nil, api.ErrHttpLine
		}
		names, values = append(names, field[1]), append(values, field[2])
	}
	return names, values, api.OK
}

func drawn(seed uint64) func(int) int {
	return func(n int) int {
		seed = seed*6364136223846793005 + 1442695040888963407
		return int((seed >> 33) % uint64(n))
	}
}

// oneOf draws one of some texts.
func oneOf(draw func(int) int, texts ...string) string { return texts[draw(len(texts))] }

// drawnBody has any bytes, those of requests' lines more often than others.
func drawnBody(draw func(int) int, n int) string {
	var b strings.Builder
	for b.Len() < n {
		b.WriteString(oneOf(draw, "\r", "\n", "\r\n", "\r\n\r\n", "GET / HTTP/1.1\r\n", "a", "{}", string([]byte{byte(draw(256))})))
	}
	return b.String()[:n]
}

func drawnSize(draw func(int) int) int {
	switch draw(12) {
	case 0:
		return 16383 + draw(2)
	case 1:
		return draw(16385)
	}
	return draw(40)
}

// drawnHeader is a header line that may be, but is neither of those that count.
func drawnHeader(draw func(int) int) string {
	name := oneOf(draw, "A", "a", "Host", "X-9", "-", "0", "content-lengt", "Content-Length2", "Connectio", "ransfer-encoding", strings.Repeat("n", 64))
	value := oneOf(draw, "", " ", "x", " x", "close", " a : b ", "~!", strings.Repeat("v", draw(900)))
	if draw(10) == 0 {
		value = strings.Repeat("v", 1024-len(name)-1)
	}
	return name + ":" + value
}

// drawnRequest is a request that may be, ahead of its being spoilt.
func drawnRequest(draw func(int) int) string {
	target := oneOf(draw, "/", "/a", "/a?", "/?", "/a?b=1", "/a?b?c", "/!~", "/%20?x&y", "//", "/"+strings.Repeat("t", draw(900)))
	method := oneOf(draw, "GET", "POST", "A", "ABCDEFGHIJKLMNOP")
	lines := []string{method + " " + target + " HTTP/1.1"}
	if draw(10) == 0 {
		lines[0] = method + " /" + strings.Repeat("t", 1024-len(method)-11) + " HTTP/1.1"
	}
	heads := draw(4)
	if draw(8) == 0 {
		heads = 29 + draw(4)
	}
	for range heads {
		lines = append(lines, drawnHeader(draw))
	}
	body := ""
	if draw(2) == 0 {
		body = drawnBody(draw, drawnSize(draw))
		form := oneOf(draw, "Content-Length:%d", "content-length: %d", "CONTENT-LENGTH:  %d  ", "Content-length:%09d")
		lines = slices.Insert(lines, 1+draw(len(lines)), fmt.Sprintf(form, len(body)))
	}
	if draw(4) == 0 {
		lines = slices.Insert(lines, 1+draw(len(lines)), oneOf(draw, "Connection: close", "connection:close", "CONNECTION:   close  ", "Connection: keep-alive", "Connection: Close", "Connection: close, x", "Connection:"))
	}
	if draw(10) == 0 {
		lines = slices.Insert(lines, 1+draw(len(lines)), drawnWrong(draw))
	}
	return strings.Join(lines, "\r\n") + "\r\n\r\n" + body
}

// drawnWrong is a line that is wrong, often.
func drawnWrong(draw func(int) int) string {
	return oneOf(draw, "Transfer-Encoding: chunked", "transfer-encoding:", "a b: c", ":x", "x", "", "a:\x7f", "a:\t", "a:\r", "\n", "a :", "é: 1",
		"Content-Length: 1", "Content-Length: x", "Content-Length:", "Content-Length: 0000000001", "Content-Length: 16385", "Content-Length: +1", "Content-Length: -1", "Content-Length: 1 2",
		strings.Repeat("n", 65)+":", "a:"+strings.Repeat("v", 1023), "a:"+strings.Repeat("\r", 1022), "a:"+strings.Repeat("v", 1022)+"\r")
}

// drawnBytes are some requests, one behind the other, sometimes with some bytes spoilt, or cut off.
func drawnBytes(draw func(int) int) string {
	var b []byte
	for range 1 + draw(4) {
		b = append(b, drawnRequest(draw)...)
	}
	if draw(2) == 0 {
		return string(b)
	}
	for range draw(3) {
		at := draw(len(b))
		switch draw(4) {
		case 0:
			b = slices.Delete(b, at, at+1)
		case 1:
			b = slices.Insert(b, at, byte(draw(256)))
		case 2:
			b[at] = "\r\n :/AzZ09-?\x00\x1f\x7f\xff"[draw(16)]
		default:
			b = b[:at+1]
		}
	}
	return string(b)
}

// drawnParts cuts s into parts, some of them empty.
func drawnParts(draw func(int) int, s string) []string {
	most := []int{1, 3, 30, 3000, len(s) + 1}[draw(5)]
	var parts []string
	for s != "" {
		n := min(draw(most+1), len(s))
		parts = append(parts, s[:n])
		s = s[n:]
	}
	return append(parts, "")
}

// TestDrawn holds a parser against the chapter said anew, part by part.
func TestDrawn(t *testing.T) {
	t.Parallel()
	for seed := range uint64(seeds) {
		draw := drawn(seed)
		s := drawnBytes(draw)
		parts := drawnParts(draw, s)
		if !isFedAs(t, parts, plainAnswers(parts)) {
			t.Fatalf("P22.2: seed %d", seed)
		}
	}
}

// seeds is how many bytes are drawn for each of the tests.
const seeds = 3000

// fed is what a call of Feed answers.
type fed struct {
	all []api.HttpRequest
	e   api.Errno
}

// plainAnswers tells what each part's Feed is to answer. What is wrong stays so, and nothing more is read then.
func plainAnswers(parts []string) []fed {
	var answers []fed
	sum := strings.Join(parts, "")
	whole, e := plainFed(sum)
	ends := plainEnds(sum)
	at, told, failed := 0, 0, plainFails(sum, e)
	for _, part := range parts {
		at += len(part)
		from := told
		for told < len(ends) && ends[told] <= at {
			told++
		}
		now := fed{all: whole[from:told]}
		if e != api.OK && at >= failed {
			now.e = e
		}
		answers = append(answers, now)
	}
	return answers
}

// plainEnds tells behind how many bytes each request is whole.
func plainEnds(s string) []int {
	var ends []int
	all := len(s)
	for {
		r, rest, whole, _ := plainRequest(s)
		if !whole {
			return ends
		}
		ends = append(ends, all-len(rest))
		if r.Close {
			return ends
		}
		s = rest
	}
}

// plainFails tells behind how many bytes something is wrong.
func plainFails(s string, e api.Errno) int {
	if e == api.OK {
		return len(s) + 1
	}
	low, high := 0, len(s)
	for low < high {
		middle := (low + high) / 2
		if _, now := plainFed(s[:middle]); now == api.OK {
			low = middle + 1
		} else {
			high = middle
		}
	}
	return low
}

// isFedAs tells whether a new parser answers the parts so.
func isFedAs(t *testing.T, parts []string, answers []fed) bool {
	t.Helper()
	p := New()
	for i, part := range parts {
		all, e := p.Feed([]byte(part))
		if !slices.Equal(all, answers[i].all) || e != answers[i].e || p.Wrong() != e {
			t.Errorf("P22.2: part %d of %d, %.60q: %.300v, %d and %d, wanted %.300v, %d", i, len(parts), part, all, e, p.Wrong(), answers[i].all, answers[i].e)
			return false
		}
	}
	return true
}

// TestDrawnParts feeds the same bytes at once, byte by byte, and in two parts wherever they may be cut (P22.7).
func TestDrawnParts(t *testing.T) {
	t.Parallel()
	for seed := range uint64(seeds / 10) {
		draw := drawn(seed + 1<<40)
		s := drawnBytes(draw)
		whole, e := plainFed(s)
		if !isFedAs(t, []string{s, ""}, []fed{{whole, e}, {nil, e}}) {
			t.Fatalf("P22.7: seed %d, at once", seed)
		}
		if bytes := eachByte(s); len(s) < 3000 && !isFedAs(t, bytes, plainAnswers(bytes)) {
			t.Fatalf("P22.7: seed %d, byte by byte", seed)
		}
		for at := range min(len(s), 300) {
			if !areToldSoon(s[:at], s[at:], whole, e) {
				t.Fatalf("P22.7: seed %d, cut at %d", seed, at)
			}
		}
	}
}

// eachByte is s in parts of a byte.
func eachByte(s string) []string {
	var parts []string
	for i := range len(s) {
		parts = append(parts, s[i:i+1])
	}
	return parts
}

// areToldSoon tells whether two parts together bring these requests, and this error.
func areToldSoon(first, second string, whole []api.HttpRequest, e api.Errno) bool {
	p := New()
	early, _ := p.Feed([]byte(first))
	late, got := p.Feed([]byte(second))
	return got == e && slices.Equal(slices.Concat(early, late), whole)
}

// drawnResponse is a response that Print does not refuse.
func drawnResponse(draw func(int) int) api.HttpResponse {
	n := draw(30)
	if draw(20) == 0 {
		n = 65536 - draw(2)
	}
	return api.HttpResponse{Code: []int{200, 400, 404, 405, 413, 503, 507}[draw(7)], Body: drawnBody(draw, n), Close: draw(2) == 0}
}

// TestDrawnResponses prints and reads, whatever stands behind, whatever is spoilt, and wherever it is cut off (P22.7).
func TestDrawnResponses(t *testing.T) {
	t.Parallel()
	for seed := range uint64(seeds) {
		draw := drawn(seed)
		r := drawnResponse(draw)
		b, e := Print(r)
		if string(b) != plainPrint(r) || e != api.OK {
			t.Fatalf("P22.4: seed %d: %.200q, %d", seed, b, e)
		}
		behind := append(slices.Clone(b), oneOf(draw, "", "x", "\r\n", string(b), drawnBody(draw, 20))...)
		if got, n, e := Read(behind); got != r || n != len(b) || e != api.OK {
			t.Fatalf("P22.5: seed %d: %.200q is read as %.200v, %d, %d", seed, behind, got, n, e)
		}
		cut := b[:draw(len(b))]
		if got, n, e := Read(cut); got != (api.HttpResponse{}) || n != 0 || e != api.ErrHttpLine {
			t.Fatalf("P22.5: seed %d: %.200q is read as %.200v, %d, %d", seed, cut, got, n, e)
		}
		spoilt := slices.Clone(behind)
		at := draw(min(len(spoilt), 90))
		switch draw(3) {
		case 0:
			spoilt = slices.Delete(spoilt, at, at+1)
		case 1:
			spoilt = slices.Insert(spoilt, at, " 0123456789\r\n:+-"[draw(16)])
		default:
			spoilt[at] = " 0123456789\r\n:+-"[draw(16)]
		}
		want, most, no := plainRead(string(spoilt))
		if got, n, e := Read(spoilt); got != want || n != most || e != no {
			t.Fatalf("P22.5: seed %d: %.200q is read as %.200v, %d, %d, wanted %.200v, %d, %d", seed, spoilt, got, n, e, want, most, no)
		}
	}
}

// TestDrawnFields holds Fields against the chapter said anew.
func TestDrawnFields(t *testing.T) {
	t.Parallel()
	for seed := range uint64(10 * seeds) {
		draw := drawn(seed)
		most := []int{3, 10, 40}[draw(3)]
		var parts []string
		for i := range draw(most) {
			part := strconv.Itoa(i) + oneOf(draw, "", "a", "&", "%", "\x00") + "=" + oneOf(draw, "", "1", "=", "a=b", "?", "\xff")
			if draw(60) == 0 {
				part = oneOf(draw, "", "=", "a", "=1", "a=", "0=")
			}
			parts = append(parts, part)
		}
		query := strings.Join(parts, "&")
		if draw(2) == 0 {
			query = strings.ReplaceAll(query, "&=", "=")
		}
		names, values, e := Fields(query)
		wantNames, wantValues, want := plainFields(query)
		if !slices.Equal(names, wantNames) || !slices.Equal(values, wantValues) || e != want {
			t.Fatalf("P22.6: seed %d: Fields(%q): %q, %q, %d, wanted %q, %q, %d", seed, query, names, values, e, wantNames, wantValues, want)
		}
	}
}
