package types

// actors: how many there are, from 0 on.
const actors = 8

func isActor(actor int) bool { return actor >= 0 && actor < actors }

// How many bytes a number has, and the greatest one.
const (
	wideBytes  = 3 // of a total, or a stamp
	countBytes = 2
	maxWide    = 1<<(8*wideBytes) - 1
	maxCount   = 1<<(8*countBytes) - 1
)

// row: a number for each actor; 0: the actor is not in it.
type row [actors]int

// greater tells for each actor the greater number of two rows.
func (r row) greater(o row) row {
	for actor, n := range o {
		r[actor] = max(r[actor], n)
	}
	return r
}

// within tells whether no number is above that of another row.
func (r row) within(o row) bool { return r.greater(o) == o }

func appendRow(b []byte, r row, width int) []byte {
	who := len(b)
	b = append(b, 0)
	for actor, n := range r {
		if n > 0 {
			b[who] |= 1 << actor
			b = appendNumber(b, n, width)
		}
	}
	return b
}

func appendNumber(b []byte, n, width int) []byte {
	for i := range width {
		b = append(b, byte(n>>(8*i)))
	}
	return b
}

// reader: bytes, read from the left. Behind their end there is nothing to read, and numbers are 0.
type reader struct{ left []byte }

func (r *reader) next(n int) []byte {
	n = min(n, len(r.left))
	part := r.left[:n]
	r.left = r.left[n:]
	return part
}

func (r *reader) number(width int) int {
	n := 0
	for i, x := range r.next(width) {
		n |= int(x) << (8 * i)
	}
	return n
}

func (r *reader) row(width int) row {
	var out row
	who := r.number(1)
	for actor := range out {
		if who>>actor&1 == 1 {
			out[actor] = r.number(width)
		}
	}
	return out
}
