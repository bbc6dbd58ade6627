package http

import (
	"strconv"
	"strings"

	"theodolite/api"
)

// The bounds of what stands in a line.
const (
	maxMethod = 16
	maxName   = 64
	maxDigits = 9
)

// version is what a request's first line ends with, and a response's begins with.
const version = "HTTP/1.1"

// request is what is known of a request when its headers are being read.
type request struct {
	told   api.HttpRequest
	heads  int
	sized  bool // its Content-Length has come
	length int
}

// What a header means is one of these, or nil, if it says nothing.
type (
	bodyLength struct{ digits string }
	connection struct{ word string }
	coding     struct{}
)

// meaning is what a header means. Great and small letters of its name are not told apart.
func meaning(name, value string) any {
	switch strings.ToLower(name) {
	case "content-length":
		return bodyLength{value}
	case "connection":
		return connection{value}
	case "transfer-encoding":
		return coding{}
	}
	return nil
}

func (r *request) takeHeader(line string) api.Errno {
	name, value, ok := parseHeader(line)
	if !ok || r.heads == api.MaxHeads {
		return api.ErrHttpHead
	}
	r.heads++
	switch m := meaning(name, value).(type) {
	case bodyLength:
		return r.takeLength(m.digits)
	case connection:
		r.told.Close = r.told.Close || m.word == "close"
	case coding:
		return api.ErrHttpHead
	}
	return api.OK
}

func (r *request) takeLength(digits string) api.Errno {
	if r.sized || digits == "" || len(digits) > maxDigits || !isAll(digits, isDigit) {
		return api.ErrHttpLength
	}
	// So many digits are always a number that there is room for.
	length, _ := strconv.Atoi(digits)
	if length > api.MaxBody {
		return api.ErrHttpLarge
	}
	r.sized, r.length = true, length
	return api.OK
}

// parseFirstLine tells what a first line says, and whether it has the form of one.
func parseFirstLine(line string) (api.HttpRequest, bool) {
	method, rest, _ := strings.Cut(line, " ")
	target, last, _ := strings.Cut(rest, " ")
	if last != version || !isMethod(method) || !isTarget(target) {
		return api.HttpRequest{}, false
	}
	path, query, _ := strings.Cut(target, "?")
	return api.HttpRequest{Method: method, Path: path, Query: query}, true
}

// parseHeader tells a header line's name and value, and whether it has the form of one.
func parseHeader(line string) (string, string, bool) {
	name, value, ok := strings.Cut(line, ":")
	if !ok || name == "" || len(name) > maxName || !isAll(name, isNameByte) || !isAll(value, isValueByte) {
		return "", "", false
	}
	return name, strings.Trim(value, " "), true
}

func isMethod(s string) bool {
	return s != "" && len(s) <= maxMethod && isAll(s, isGreat)
}

func isTarget(s string) bool {
	return strings.HasPrefix(s, "/") && isAll(s, isTargetByte)
}

func isAll(s string, is func(c byte) bool) bool {
	for i := range len(s) {
		if !is(s[i]) {
			return false
		}
	}
	return true
}

func isGreat(c byte) bool { return 'A' <= c && c <= 'Z' }

func isDigit(c byte) bool { return '0' <= c && c <= '9' }

func isNameByte(c byte) bool {
	return isGreat(c) || 'a' <= c && c <= 'z' || isDigit(c) || c == '-'
}

func isTargetByte(c byte) bool { return 33 <= c && c <= 126 }

func isValueByte(c byte) bool { return 32 <= c && c <= 126 }
