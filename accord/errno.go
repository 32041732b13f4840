package accord

import (
	"errors"

	"accord/api"
	"accord/wire"
)

// errno gives the number under which an error of package wire is told outside.
func errno(err error) api.Errno {
	switch {
	case err == nil:
		return api.OK
	case errors.Is(err, wire.ErrValue):
		return api.ErrValue
	case errors.Is(err, wire.ErrShort):
		return api.ErrShort
	case errors.Is(err, wire.ErrMagic):
		return api.ErrMagic
	case errors.Is(err, wire.ErrMore):
		return api.ErrMore
	case errors.Is(err, wire.ErrSum):
		return api.ErrSum
	}
	// Of package wire's errors only ErrForm is left.
	return api.ErrForm
}
