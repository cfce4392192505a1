package policy

import (
	"cochineal/api"
	"cochineal/lexer"
)

// Words of a policy's text.
const (
	secretWord     = "secret"
	sinkWord       = "sink"
	bitsWord       = "bits"
	declassifyWord = "declassify"
	traceWord      = "trace"
)

// setting is a number of which there is one line at most.
type setting struct {
	n    int
	told bool
}

// reader reads a policy, line by line: each of its methods for a line takes what is behind the line's word.
type reader struct {
	left       []lexer.Token // to be read
	spans      spans         // in the text's order
	declassify setting
	trace      setting
}

func (r *reader) readSecret(word lexer.Token) (lexer.Place, api.Errno) {
	return r.readSpan(word, false)
}

func (r *reader) readSink(word lexer.Token) (lexer.Place, api.Errno) { return r.readSpan(word, true) }

func (r *reader) readDeclassify(word lexer.Token) (lexer.Place, api.Errno) {
	return r.readSetting(word, &r.declassify, mayDeclassify)
}

func (r *reader) readTrace(word lexer.Token) (lexer.Place, api.Errno) {
	return r.readSetting(word, &r.trace, mayTrace)
}

// readSpan reads the rest of a line of a span.
func (r *reader) readSpan(word lexer.Token, sink bool) (lexer.Place, api.Errno) {
	from, ok := take(r, kind, lexer.Number)
	if !ok {
		return r.wrong()
	}
	to, mask := from, lexer.Token{N: allBits}
	if _, more := take(r, kind, lexer.Dots); more {
		if to, ok = take(r, kind, lexer.Number); !ok {
			return r.wrong()
		}
	}
	if _, more := take(r, text, bitsWord); more {
		if mask, ok = take(r, kind, lexer.Number); !ok {
			return r.wrong()
		}
	}
	if _, ok = take(r, kind, lexer.End); !ok {
		return r.wrong()
	}
	if mask.N < 1 || mask.N > allBits {
		return mask.At, api.ErrRange
	}
	switch e := r.spans.add(marked{Span{from.N, to.N, byte(mask.N)}, sink}); e {
	case api.OK:
		return lexer.Place{}, api.OK
	case api.ErrRange:
		return from.At, e
	default:
		return word.At, e
	}
}

// readSetting reads the rest of a line of a number that there may be once.
func (r *reader) readSetting(word lexer.Token, s *setting, may func(int) bool) (lexer.Place, api.Errno) {
	number, ok := take(r, kind, lexer.Number)
	if !ok {
		return r.wrong()
	}
	if _, ok = take(r, kind, lexer.End); !ok {
		return r.wrong()
	}
	if s.told {
		return word.At, api.ErrThere
	}
	if !may(number.N) {
		return number.At, api.ErrRange
	}
	*s = setting{n: number.N, told: true}
	return lexer.Place{}, api.OK
}

// wrong tells of the next token that it is not the one that has to be there.
func (r *reader) wrong() (lexer.Place, api.Errno) { return r.left[0].At, api.ErrForm }

// policy is what has been read.
func (r *reader) policy() Policy {
	p := Policy{Secrets: r.spans.of(false), Sinks: r.spans.of(true), Declassify: r.declassify.n, Trace: Trace}
	if r.trace.told {
		p.Trace = r.trace.n
	}
	return Sorted(p)
}

// take takes the next token, if that of it which is asked is as wanted.
func take[T comparable](r *reader, ask func(lexer.Token) T, want T) (lexer.Token, bool) {
	// There is one: each line's last token is its End, and nothing is taken behind that.
	t := r.left[0]
	if ask(t) != want {
		return lexer.Token{}, false
	}
	r.left = r.left[1:]
	return t, true
}

func kind(t lexer.Token) int { return t.Kind }

// text is a word's, and nothing of a token of another kind.
func text(t lexer.Token) string { return t.Text }
