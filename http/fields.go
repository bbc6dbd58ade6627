package http

import (
	"strings"

	"theodolite/api"
)

// maxFields is how many parts a query may have.
const maxFields = 32

// Fields is P22.6.
func Fields(query string) ([]string, []string, api.Errno) {
	if query == "" {
		return nil, nil, api.OK
	}
	if strings.Count(query, "&") >= maxFields {
		return nil, nil, api.ErrHttpLarge
	}
	var names, values []string
	known := map[string]int{}
	for _, part := range strings.Split(query, "&") {
		name, value, ok := strings.Cut(part, "=")
		if !ok || name == "" || known[name] > 0 {
			return nil, nil, api.ErrHttpLine
		}
		known[name]++
		names = append(names, name)
		values = append(values, value)
	}
	return names, values, api.OK
}
