package script

import (
	"math"
	"strings"

	"rookery/api"
)

// reader goes over one line that means something. Its calls tell whether what they ask for stands there; where it doesn't, the reader stays ahead of the first byte that can't stand there.
type reader struct {
	line string // with its end, if it has one
	at   int
}

// take goes over a text, as far as it stands there.
func (r *reader) take(text string) bool {
	for i := range len(text) {
		if !r.sees(text[i]) {
			return false
		}
		r.at++
	}
	return true
}

func (r *reader) sees(c byte) bool { return r.at < len(r.line) && r.line[r.at] == c }

// digit tells the value of the digit that comes next; -1, if none does.
func (r *reader) digit(base int) int {
	if r.at == len(r.line) {
		return -1
	}
	return strings.IndexByte(digits[:base], r.line[r.at])
}

func (r *reader) config() (api.Config, bool) {
	var c api.Config
	ahead := ""
	for i, n := range configNumbers(&c) {
		if !r.take(ahead+configWords[i]+" ") || !r.number(n, true) {
			return api.Config{}, false
		}
		ahead = " "
	}
	ok := r.take("\n")
	return c, ok
}

func (r *reader) step() (api.Step, bool) {
	f, ok := r.form()
	s := api.Step{Kind: f.kind, Dead: f.dead}
	for _, sign := range f.fields {
		ok = ok && r.take(" ") && r.field(&s, sign)
	}
	// Ahead of the return, not in it: Go leaves open whether a variable that stands beside a call is read behind it.
	ok = ok && r.moreFields(&s, f.more) && r.take("\n")
	return s, ok
}

// form takes a step's first word. It goes on as long as any word goes on so: one word may be another's beginning.
func (r *reader) form() (form, bool) {
	for r.at < len(r.line) && beginsForm(r.line[:r.at+1]) {
		r.at++
	}
	for _, f := range forms {
		if f.word == r.line[:r.at] {
			return f, true
		}
	}
	return form{}, false
}

func beginsForm(text string) bool {
	for _, f := range forms {
		if strings.HasPrefix(f.word, text) {
			return true
		}
	}
	return false
}

func (r *reader) field(s *api.Step, sign rune) bool {
	switch sign {
	case 'K':
		b, ok := r.text()
		s.Key = string(b)
		return ok
	case 'V':
		b, ok := r.text()
		s.Value = b
		return ok
	}
	return r.number(numberAt(s, sign), true)
}

// moreFields takes those of the fields that are there; behind a blank one of them must be.
func (r *reader) moreFields(s *api.Step, left string) bool {
	for left != "" && r.take(" ") {
		switch {
		case left[0] == 'S' && r.sees('s'):
			if !r.take("sloppy") {
				return false
			}
			s.Sloppy = true
			left = left[1:]
		case strings.Contains(left, "F"):
			return r.take("from ") && r.number(&s.From, false)
		default:
			return false
		}
	}
	return true
}

// number takes a number. It ends ahead of a digit that can't belong to it: whatever may follow a number is none.
func (r *reader) number(to *int, zero bool) bool {
	least := -math.MaxInt
	negative := r.take("-")
	if negative {
		least = math.MinInt
		zero = false
	}
	first := r.digit(10)
	if first < 0 || first == 0 && !zero {
		return false
	}
	r.at++
	n := -first // reckoned below zero, where int64 reaches farther
	for d := r.digit(10); first > 0 && d >= 0 && n >= (least+d)/10; d = r.digit(10) {
		n = 10*n - d
		r.at++
	}
	if !negative {
		n = -n
	}
	*to = n
	return true
}

// text takes a text word, and tells the bytes that it means.
func (r *reader) text() ([]byte, bool) {
	if r.take("-") {
		return nil, true
	}
	var b []byte
	for r.at < len(r.line) {
		c := r.line[r.at]
		if !meansItself(c) && c != '%' {
			break
		}
		r.at++
		if c == '%' {
			var ok bool
			if c, ok = r.coded(); !ok {
				return nil, false
			}
		}
		b = append(b, c)
	}
	return b, len(b) > 0
}

// coded takes the two digits of a byte that doesn't mean itself. Behind each first digit there is a second one that will do.
func (r *reader) coded() (byte, bool) {
	high := r.digit(16)
	if high < 0 {
		return 0, false
	}
	r.at++
	low := r.digit(16)
	if low < 0 || meansItself(byte(high<<4|low)) {
		return 0, false
	}
	r.at++
	return byte(high<<4 | low), true
}
