package script

import (
	"strconv"
	"strings"

	"rookery/api"
)

const digits = "0123456789ABCDEF"

// meansItself tells whether a byte stands as it is in a text word.
func meansItself(c byte) bool {
	return c >= 'a' && c <= 'z' || c >= 'A' && c <= 'Z' || c >= '0' && c <= '9' || c == '_' || c == '.'
}

// row is the words of a line. Its calls tell it with further words.
type row []string

func (r row) numbers(l ...int) row {
	for _, n := range l {
		r = append(r, strconv.Itoa(n))
	}
	return r
}

func (r row) text(bytes string) row {
	if bytes == "" {
		return append(r, "-")
	}
	var b strings.Builder
	for i := range len(bytes) {
		c := bytes[i]
		if meansItself(c) {
			b.WriteByte(c)
		} else {
			b.WriteString("%" + digits[c>>4:c>>4+1] + digits[c&15:c&15+1])
		}
	}
	return append(r, b.String())
}

func (r row) set(s []api.Span) row {
	if len(s) == 0 {
		return append(r, "-")
	}
	var l []string
	for _, x := range s {
		span := strconv.Itoa(x.Node) + ":" + strconv.Itoa(x.Base)
		if x.Bits != 0 {
			span += "+" + strings.ToUpper(strconv.FormatUint(x.Bits, 16))
		}
		l = append(l, span)
	}
	return append(r, strings.Join(l, ","))
}

func (r row) write(w api.Write) row {
	r = r.numbers(w.Dot.Node, w.Dot.Count).text(w.Key)
	if w.Dead {
		r = append(r, "dead")
	} else {
		r = append(r, "value").text(string(w.Value))
	}
	return r.set(w.Ctx)
}

func configRow(c api.Config) row {
	var r row
	for i, n := range configNumbers(&c) {
		r = append(r, configWords[i]).numbers(*n)
	}
	return r
}

// stepRow tells the line of a step that has a form.
func stepRow(s api.Step) row {
	f, _ := formOf(s)
	r := row{f.word}
	for _, sign := range f.fields {
		switch sign {
		case 'K':
			r = r.text(s.Key)
		case 'V':
			r = r.text(string(s.Value))
		default:
			r = r.numbers(*numberAt(&s, sign))
		}
	}
	if s.Sloppy {
		r = append(r, "sloppy")
	}
	if s.From != 0 {
		r = append(r, "from").numbers(s.From)
	}
	return r
}
