// Package wrong: errors of which the first one counts.
package wrong

import "curtain/api"

// First is the first of these that is an error; OK, if none is.
func First(errs ...api.Errno) api.Errno {
	for _, e := range errs {
		if e != api.OK {
			return e
		}
	}
	return api.OK
}

// When is the error, if what is bad is so.
func When(bad bool, e api.Errno) api.Errno {
	if bad {
		return e
	}
	return api.OK
}
