package page

import "rookery/api"

// How many bytes a number has that has not one alone.
const (
	genBytes   = 6
	countBytes = 4 // of a dot's count, and of a base
	bitsBytes  = 8
)

// begun tells a page with its kind alone. It has room for the longest one, so that what is appended stays in it.
func begun(kind byte) []byte { return append(make([]byte, 0, api.PageSize), kind) }

// whole tells the page with all that is behind its end: nothing has been written there, so it is zeros.
func whole(b []byte) []byte { return b[:api.PageSize] }

// appendNumber writes a number of so many bytes, the lowest first.
func appendNumber(b []byte, n uint64, bytes int) []byte {
	for range bytes {
		b = append(b, byte(n))
		n >>= 8
	}
	return b
}

func appendText[T string | []byte](b []byte, text T) []byte {
	return append(append(b, byte(len(text))), text...)
}

func appendSet(b []byte, s []api.Span) []byte {
	b = append(b, byte(len(s)))
	for _, x := range s {
		b = appendNumber(append(b, byte(x.Node)), uint64(x.Base), countBytes)
		b = appendNumber(b, x.Bits, bitsBytes)
	}
	return b
}

// appendWrite writes all of a write but its key.
func appendWrite(b []byte, w api.Write) []byte {
	b = appendNumber(append(b, byte(w.Dot.Node)), uint64(w.Dot.Count), countBytes)
	b = append(b, deadByte(w.Dead))
	return appendSet(appendText(b, w.Value), w.Ctx)
}

func deadByte(dead bool) byte {
	if dead {
		return 1
	}
	return 0
}
