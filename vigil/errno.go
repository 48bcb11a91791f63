package vigil

import (
	"errors"

	"vigil/api"
	"vigil/sentence"
)

// errno gives the number of an error, however often it was wrapped on its way here.
func errno(err error) api.Errno {
	var deep *sentence.TooDeep
	switch {
	case err == nil:
		return api.OK
	case errors.Is(err, sentence.ErrNoSentence):
		return api.ErrText
	case errors.As(err, &deep):
		return api.ErrDeep
	}
	// No call makes another error; if one did, it must not pass for OK.
	return api.ErrArg
}
