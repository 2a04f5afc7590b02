package link

import (
	"errors"

	"shackle/api"
)

// fault is an error of linking: the Code of what went wrong, with an object and a name.
func fault(object, name string, err error) error {
	code := api.ErrGuest
	errors.As(err, &code)
	return &api.Fault{Object: object, Name: name, Err: code}
}
