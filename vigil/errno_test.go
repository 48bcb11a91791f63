package vigil

import (
	"errors"
	"testing"

	"vigil/api"
	"vigil/sentence"
)

func TestErrno(t *testing.T) {
	wrapped := func(err error) error {
		return &sentence.TextError{Text: "outer", Err: &sentence.TextError{Text: "inner", Err: err}}
	}
	for _, c := range []struct {
		err  error
		want api.Errno
	}{
		{nil, api.OK},
		{sentence.ErrNoSentence, api.ErrText},
		{&sentence.Fault{Place: 3, Why: "why"}, api.ErrText},
		{wrapped(sentence.ErrNoSentence), api.ErrText},
		{wrapped(&sentence.Fault{}), api.ErrText},
		{&sentence.TooDeep{Depth: 13}, api.ErrDeep},
		{wrapped(&sentence.TooDeep{Depth: 13}), api.ErrDeep},
	} {
		if got := errno(c.err); got != c.want {
			t.Errorf("errno(%v) = %d, want %d", c.err, got, c.want)
		}
	}
	if errno(errors.New(sentence.ErrNoSentence.Error())) == api.OK {
		t.Error("an error that no call makes passes for OK")
	}
}
