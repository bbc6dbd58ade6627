package store

import (
	"slices"

	"theodolite/api"
	"theodolite/codec"
	"theodolite/vec"
)

// none tells whether s is no store that Open gave.
func (s *Store) none() bool { return s == nil || s.log == nil }

// attempt does what may give up, and tells the error with which it did.
func attempt(act func()) (e api.Errno) {
	defer func() {
		gave := recover()
		if why, is := gave.(api.Errno); is {
			e = why
		} else if gave != nil {
			panic(gave)
		}
	}()
	act()
	return api.OK
}

// demand gives up, if there is an error.
func demand(e api.Errno) {
	if e != api.OK {
		panic(e)
	}
}

// got is what a call has answered beside its error.
func got[T any](x T, e api.Errno) T {
	demand(e)
	return x
}

// change is a change of the rows that there are: it stands in the log ahead of being done, so that the log never lacks one.
func (s *Store) change(c api.Change) (int, api.Errno) {
	if s.none() {
		return 0, api.ErrNil
	}
	if e := s.check(c); e != api.OK {
		return 0, e
	}
	e := attempt(func() { got(s.log.Append(got(codec.PutChange(c)))) })
	if e != api.OK {
		return 0, e
	}
	c.V = slices.Clone(c.V)
	s.apply(c)
	s.changes = append(s.changes, c)
	return s.Seq(), api.OK
}

// check tells what keeps c from being done to the rows, as P19.2 says.
func (s *Store) check(c api.Change) api.Errno {
	_, there := s.rows[c.Id]
	if c.Kind == api.ChangeDelete {
		if !there {
			return api.ErrStoreNone
		}
		return api.OK
	}
	if c.Id < 1 || c.Id > api.MaxId {
		return api.ErrFlatId
	}
	if e := vec.Check(c.V, s.dim); e != api.OK {
		return e
	}
	if !there && len(s.rows) >= api.MaxRows {
		return api.ErrStoreMany
	}
	return api.OK
}

// apply does c to the rows.
func (s *Store) apply(c api.Change) {
	if c.Kind == api.ChangeDelete {
		delete(s.rows, c.Id)
	} else {
		s.rows[c.Id] = c.V
	}
}
