package vigil

import (
	"errors"
	"testing"

	"vigil/api"
	"vigil/past"
	"vigil/sentence"
	"vigil/watch"
)

func TestErrno(t *testing.T) {
	wrapped := func(err error) error {
		return &sentence.TextError{Text: "outer", Err: &sentence.TextError{Text: "inner", Err: err}}
	}
	for _, c := range []struct {
		err  error
		want api.Errno
	}{
		{nil, api.OK},
		{sentence.ErrNoSentence, api.ErrText},
		{&sentence.Fault{Place: 3, Why: "why"}, api.ErrText},
		{wrapped(sentence.ErrNoSentence), api.ErrText},
		{wrapped(&sentence.Fault{}), api.ErrText},
		{&sentence.TooDeep{Depth: 13}, api.ErrDeep},
		{wrapped(&sentence.TooDeep{Depth: 13}), api.ErrDeep},
		{wrapped(watch.ErrNoName), api.ErrName},
		{wrapped(&past.TooFar{Reach: 6}), api.ErrFar},
		{wrapped(watch.ErrTwice), api.ErrTwice},
		{wrapped(watch.ErrNone), api.ErrNone},
		{wrapped(watch.ErrFull), api.ErrPolicies},
		{wrapped(&watch.TooManyNodes{Count: 41}), api.ErrNodes},
		{wrapped(past.ErrTime), api.ErrTime},
		{wrapped(&past.AtomError{Place: 1}), api.ErrAtoms},
		{wrapped(&watch.StreamFull{Policy: "p"}), api.ErrStream},
		{wrapped(&past.NoRoom{Events: 6}), api.ErrRoom},
		{wrapped(&past.OutOfRange{What: "room"}), api.ErrArg},
		{&watch.PolicyError{Policy: "p", Err: &watch.EventError{Err: watch.ErrNone}}, api.ErrNone},
	} {
		if got := errno(c.err); got != c.want {
			t.Errorf("errno(%v) = %d, want %d", c.err, got, c.want)
		}
	}
	if errno(errors.New(sentence.ErrNoSentence.Error())) == api.OK {
		t.Error("an error that no call makes passes for OK")
	}
}
