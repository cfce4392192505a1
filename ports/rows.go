package ports

import (
	"slices"

	"cochineal/api"
)

// input is what is still to come in.
type input[T any] struct{ left []T }

// next is what comes in now, or, where nothing is left, what is read behind the end.
func (n *input[T]) next(end T) T {
	if len(n.left) == 0 {
		return end
	}
	x := n.left[0]
	n.left = n.left[1:]
	return x
}

// clone is one of its own, with what is left of this one.
func (n *input[T]) clone() input[T] { return input[T]{left: slices.Clone(n.left)} }

// full tells whether nothing more may go out there.
func full[T any](l []T) bool { return len(l) >= MaxOut }

// put lets one more go out, if there is room.
func put[T any](l *[]T, x T) api.Errno {
	if full(*l) {
		return api.ErrFull
	}
	*l = append(*l, x)
	return api.OK
}

// last is what went out last, or a zero value at first.
func last[T any](l []T) T {
	if len(l) == 0 {
		var none T
		return none
	}
	return l[len(l)-1]
}
