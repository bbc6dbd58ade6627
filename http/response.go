package http

import (
	"bytes"
	"strconv"
	"strings"

	"theodolite/api"
)

// lengthName is what the line of a response's length begins with.
const lengthName = "Content-Length: "

// closeLine is the line of a response with Close.
const closeLine = "Connection: close"

// word is what stands behind a code; no other code has one.
func word(code int) string {
	switch code {
	case 200:
		return "OK"
	case 400:
		return "Bad Request"
	case 404:
		return "Not Found"
	case 405:
		return "Method Not Allowed"
	case 413:
		return "Payload Too Large"
	case 503:
		return "Service Unavailable"
	case 507:
		return "Insufficient Storage"
	}
	return ""
}

// Print is P22.4.
func Print(r api.HttpResponse) ([]byte, api.Errno) {
	if word(r.Code) == "" {
		return nil, api.ErrArg
	}
	if len(r.Body) > api.MaxText {
		return nil, api.ErrLong
	}
	return []byte(printHead(r.Code, len(r.Body), r.Close) + r.Body), api.OK
}

// printHead tells all that stands ahead of a response's body.
func printHead(code, length int, closes bool) string {
	head := version + " " + strconv.Itoa(code) + " " + word(code) + lineEnd
	head += lengthName + strconv.Itoa(length) + lineEnd
	if closes {
		head += closeLine + lineEnd
	}
	return head + lineEnd
}

// Read is P22.5.
func Read(b []byte) (api.HttpResponse, int, api.Errno) {
	end := bytes.Index(b, []byte(lineEnd+lineEnd))
	if end < 0 {
		return api.HttpResponse{}, 0, api.ErrHttpLine
	}
	start := end + 2*len(lineEnd)
	code, length, closes := guessHead(string(b[:end]))
	if word(code) == "" || length < 0 || length > min(api.MaxText, len(b)-start) {
		return api.HttpResponse{}, 0, api.ErrHttpLine
	}
	// A head that is not printed so would be another's.
	if printHead(code, length, closes) != string(b[:start]) {
		return api.HttpResponse{}, 0, api.ErrHttpLine
	}
	body := string(b[start : start+length])
	return api.HttpResponse{Code: code, Body: body, Close: closes}, start + length, api.OK
}

// guessHead tells what a head says, if it is one; if not, it says anything.
func guessHead(head string) (code, length int, closes bool) {
	first, rest, _ := strings.Cut(head, lineEnd)
	second, third, _ := strings.Cut(rest, lineEnd)
	_, first, _ = strings.Cut(first, " ")
	first, _, _ = strings.Cut(first, " ")
	code, _ = strconv.Atoi(first)
	length, _ = strconv.Atoi(strings.TrimPrefix(second, lengthName))
	return code, length, third == closeLine
}
