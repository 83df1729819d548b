package gate

import (
	"errors"

	"turnkey/api"
)

// refusal wraps the error for which a request is refused: some layers tell it as a number, others as a fault at a place,
// and which number it is, is asked of both alike.
type refusal struct {
	err error
}

// Error tells it.
func (r *refusal) Error() string {
	return "refused: " + r.err.Error()
}

// Unwrap gives the reason.
func (r *refusal) Unwrap() error {
	return r.err
}

// refused is nil where a layer refuses nothing, which some tell by nil, and others by OK.
func refused(err error) error {
	if err == nil || errors.Is(err, api.OK) {
		return nil
	}
	return &refusal{err: err}
}
