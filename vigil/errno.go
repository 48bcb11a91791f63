package vigil

import (
	"errors"

	"vigil/api"
	"vigil/past"
	"vigil/sentence"
	"vigil/watch"
)

// errno gives the number of an error, however often it was wrapped on its way here.
func errno(err error) api.Errno {
	switch {
	case err == nil:
		return api.OK
	case errors.Is(err, sentence.ErrNoSentence):
		return api.ErrText
	case isA[*sentence.TooDeep](err):
		return api.ErrDeep
	case errors.Is(err, watch.ErrNoName):
		return api.ErrName
	case isA[*past.TooFar](err):
		return api.ErrFar
	case errors.Is(err, watch.ErrTwice):
		return api.ErrTwice
	case errors.Is(err, watch.ErrNone):
		return api.ErrNone
	case errors.Is(err, watch.ErrFull):
		return api.ErrPolicies
	case isA[*watch.TooManyNodes](err):
		return api.ErrNodes
	case errors.Is(err, past.ErrTime):
		return api.ErrTime
	case errors.Is(err, past.ErrAtoms):
		return api.ErrAtoms
	case isA[*watch.StreamFull](err):
		return api.ErrStream
	case isA[*past.NoRoom](err):
		return api.ErrRoom
	}
	// What is left is a past.OutOfRange; and if there were another error, it must not pass for OK.
	return api.ErrArg
}

// isA tells whether an error of this type was wrapped.
func isA[E error](err error) bool {
	var found E
	return errors.As(err, &found)
}
