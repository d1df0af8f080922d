package derive

import "triforium/api"

// Guarded returns what a function returns; nothing but the code, if it is left by a panic with one, or returns one.
func Guarded[T any](build func() (T, api.Errno)) (r T, e api.Errno) {
	defer func() {
		if x := recover(); x != nil {
			var none T
			r, e = none, Failure(x)
		}
	}()
	r, e = build()
	if e != api.OK {
		panic(e)
	}
	return r, api.OK
}

// Want returns a value, or leaves with its error.
func Want[T any](x T, e api.Errno) T {
	if e != api.OK {
		panic(e)
	}
	return x
}

// Limited returns what a function makes, which only limits of the kernel can prevent: then it leaves with api.ErrLarge.
func Limited[T any](build func() T) T {
	defer func() {
		if x := recover(); x != nil {
			panic(api.ErrLarge)
		}
	}()
	return build()
}
