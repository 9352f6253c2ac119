package wire

import "rookery/api"

// appendNumber writes a number in groups of seven bits, the lowest first.
func appendNumber(b []byte, n uint64) []byte {
	for n >= group {
		b = append(b, byte(n%group+group))
		n /= group
	}
	return append(b, byte(n))
}

// appendInts writes numbers that are known to be 0 or more.
func appendInts(b []byte, list ...int) []byte {
	for _, n := range list {
		b = appendNumber(b, uint64(n))
	}
	return b
}

func appendText(b []byte, text string) []byte {
	return append(appendInts(b, len(text)), text...)
}

func appendSet(b []byte, s []api.Span) []byte {
	b = appendInts(b, len(s))
	for _, x := range s {
		b = appendNumber(appendInts(b, x.Node, x.Base), x.Bits)
	}
	return b
}

func appendWrite(b []byte, w api.Write) []byte {
	b = appendText(appendInts(b, w.Dot.Node, w.Dot.Count), w.Key)
	if w.Dead {
		b = appendInts(b, 1)
	} else {
		b = appendText(appendInts(b, 0), string(w.Value))
	}
	return appendSet(b, w.Ctx)
}

func appendMessage(b []byte, m api.Msg) []byte {
	has := fieldsOf(m.Kind)
	b = appendInts(b, m.Kind, m.From, m.To)
	if has.name(hasCall) {
		b = appendInts(b, m.Call)
	}
	if has.name(hasOwner) {
		b = appendInts(b, m.Owner)
	}
	if has.name(hasRange) {
		b = appendInts(b, m.Range)
	}
	if has.name(hasKey) {
		b = appendText(b, m.Key)
	}
	if has.name(hasDot) {
		b = appendInts(b, m.Dot.Node, m.Dot.Count)
	}
	if has.name(hasSet) {
		b = appendSet(b, m.Set)
	}
	if has.name(hasWrites) {
		b = appendInts(b, len(m.Writes))
	}
	for _, w := range m.Writes {
		b = appendWrite(b, w)
	}
	return b
}
