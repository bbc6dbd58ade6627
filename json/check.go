package json

import (
	"slices"

	"theodolite/api"
)

// demandValue gives up with the error that P20.1 tells of v.
func demandValue(v api.Value) {
	all := within(v)
	demandEach(all, formed, api.ErrJsonForm)
	demand(!tooDeep(v), api.ErrJsonDeep)
	demandEach(all, small, api.ErrJsonNum)
	demandEach(all, short, api.ErrJsonMany)
	demandEach(all, named, api.ErrJsonForm)
}

// demandEach gives up with that error, if something does not hold of each of the values.
func demandEach(values []api.Value, holds func(v api.Value) bool, e api.Errno) {
	for _, v := range values {
		demand(holds(v), e)
	}
}

// within are v and all values within it. A place in memory counts once: so there is an end to a list that stands within itself, too.
func within(v api.Value) []api.Value {
	all := []api.Value{v}
	seen := map[*api.Value]struct{}{}
	for level := all; len(level) > 0; {
		level = elements(level, seen)
		all = append(all, level...)
	}
	return all
}

// tooDeep tells whether v is more than api.MaxDeep deep: then a list or an object stands behind so many others.
func tooDeep(v api.Value) bool {
	level := []api.Value{v}
	for range api.MaxDeep {
		level = elements(level, map[*api.Value]struct{}{})
	}
	return slices.ContainsFunc(level, func(x api.Value) bool {
		return x.Sort == api.SortList || x.Sort == api.SortObject
	})
}

// elements are those of the values' lists whose places seen does not have, which it has from then on.
func elements(values []api.Value, seen map[*api.Value]struct{}) []api.Value {
	var out []api.Value
	for _, v := range values {
		for i := range v.List {
			if _, known := seen[&v.List[i]]; !known {
				seen[&v.List[i]] = struct{}{}
				out = append(out, v.List[i])
			}
		}
	}
	return out
}

// formed tells whether v has a Sort that there is, and only what its Sort uses.
func formed(v api.Value) bool {
	num, text := v.Num == 0, v.Text == ""
	list, names := len(v.List) == 0, len(v.Names) == 0
	switch v.Sort {
	case api.SortNull, api.SortFalse, api.SortTrue:
		return num && text && list && names
	case api.SortNum:
		return text && list && names
	case api.SortText:
		return num && list && names
	case api.SortList:
		return num && text && names
	case api.SortObject:
		return num && text && len(v.Names) == len(v.List)
	}
	return false
}

// small tells whether v's number is one that may be.
func small(v api.Value) bool { return v.Num >= -api.MaxNum && v.Num <= api.MaxNum }

// short tells whether v has no more elements than may be.
func short(v api.Value) bool { return len(v.List) <= api.MaxItems }

// named tells whether v has no name twice.
func named(v api.Value) bool {
	names := slices.Sorted(slices.Values(v.Names))
	return len(slices.Compact(names)) == len(v.Names)
}

// place is where a list stands in memory.
type place struct {
	first  *api.Value
	length int
}

// copied is v in new memory; around has the copies of the lists in which v stands.
func copied(v api.Value, around map[place][]api.Value) api.Value {
	v.Names = slices.Clone(v.Names)
	v.List = copiedList(v.List, around)
	return v
}

// copiedList is the list in new memory. One that stands within itself does so in the copy, or else there would be no end.
func copiedList(list []api.Value, around map[place][]api.Value) []api.Value {
	if len(list) == 0 {
		return nil
	}
	here := place{first: &list[0], length: len(list)}
	if made, is := around[here]; is {
		return made
	}
	made := make([]api.Value, len(list))
	around[here] = made
	for i, x := range list {
		made[i] = copied(x, around)
	}
	delete(around, here)
	return made
}
