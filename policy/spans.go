package policy

import "cochineal/api"

// marked is a span, and its kind.
type marked struct {
	Span
	sink bool
}

// spans are those of a policy so far, of both kinds, each of which may be.
type spans []marked

// add takes one more span, or tells why it may not be.
func (l *spans) add(s marked) api.Errno {
	if !s.lies() || s.Bits == 0 {
		return api.ErrRange
	}
	if len(*l) == MaxSpans {
		return api.ErrFull
	}
	if e := l.clash(s); e != api.OK {
		return e
	}
	*l = append(*l, s)
	return api.OK
}

// clash tells whether a span has an address that one of its kind has, or one of the other kind.
func (l spans) clash(s marked) api.Errno {
	e := api.OK
look:
	for _, t := range l {
		switch {
		case s.From > t.To || t.From > s.To:
			continue look
		case s.sink == t.sink:
			e = api.ErrThere
			break look
		default:
			// One of its own kind may yet come, and that one is to be told.
			e = api.ErrKind
		}
	}
	return e
}

// of are the spans of a kind, in order.
func (l spans) of(sink bool) []Span {
	var all []Span
	for _, s := range l {
		if s.sink == sink {
			all = append(all, s.Span)
		}
	}
	return all
}

// lies tells whether a span's addresses are such as one of its kind may have.
func (s marked) lies() bool {
	if s.From > s.To {
		return false
	}
	ram := s.From >= 0 && s.To <= lastRAM
	rom := s.From >= firstROM && s.To < api.Size
	return ram || rom && !s.sink
}

// mayDeclassify tells whether so many bytes may be told.
func mayDeclassify(n int) bool { return n >= 0 && n <= MaxDeclassify }

// mayTrace tells whether a trace may be so long.
func mayTrace(n int) bool { return n >= 1 && n <= MaxTrace }
