package wire

import (
	"bytes"
	"math"
	"slices"
	"testing"

	"rookery/api"
)

// wrongNumbers: what may not stand in a field of a name, whatever stands around it.
func wrongNumbers(name string) []uint64 {
	var l []uint64
	above := map[string]uint64{
		"Kind": 11, "From": 7, "To": 7, "Owner": 7, "Node": 7, "span Node": 7, "Call": 4096, "Range": 15, "Count": 1 << 20, "key length": 16,
		"value length": 64, "dead": 1, "spans": 8, "Base": 1 << 20,
	}
	if most, ok := above[name]; ok {
		l = append(l, most+1, most+2, 255, 256+most, 1<<32, 1<<32+most, 1<<63, 1<<63+most, math.MaxUint64)
		l = slices.DeleteFunc(l, func(n uint64) bool { return n <= most })
	}
	switch name {
	case "Kind", "Count", "key length":
		l = append(l, 0)
	case "Bits":
		l = append(l, 1, 3, math.MaxUint64)
	}
	return l
}

// TestP606EachField: each number of each sample, in turn, as it may not be.
func TestP606EachField(t *testing.T) {
	met := map[string]bool{}
	for _, m := range samples() {
		fields := msgFields(m)
		for i, f := range fields {
			met[f.name] = true
			for _, n := range wrongNumbers(f.name) {
				spoilt := slices.Clone(fields)
				spoilt[i].number = n
				at := len(join(fields[:i]))
				b := join(spoilt)
				wantWrong(t, b, at)
				// the field is wrong when it is read to its end: what is behind it doesn't count, what is in it does
				end := at + len(spoilt[i].bytes())
				wantWrong(t, b[:end], at)
				for cut := at; cut < end; cut++ {
					wantWrong(t, b[:cut], cut)
				}
			}
		}
	}
	if len(met) != 18 {
		t.Errorf("fields met: %v", met)
	}
}

// TestP606AtTheBounds: the number at a bound is read, and the one past it is wrong.
func TestP606AtTheBounds(t *testing.T) {
	for _, c := range []struct {
		text string
		at   int
	}{
		{"02 07 07 80 20 07", -1}, {"02 08 07 80 20 07", 1}, {"02 07 08 80 20 07", 2}, {"02 07 07 81 20 07", 3}, {"02 07 07 80 20 08", 5},
		{"0B 00 00 01 6B 07 80 80 40", -1}, {"0B 00 00 01 6B 08 80 80 40", 5}, {"0B 00 00 01 6B 07 81 80 40", 6}, {"0B 00 00 01 6B 07 01", -1}, {"0B 00 00 01 6B 07 00", 6},
		{"08 00 00 0F 00", -1}, {"08 00 00 10 00", 3}, {"08 00 00 0F 09", 4},
		{"08 00 00 00 01 07 80 80 40 00", -1}, {"08 00 00 00 01 08 80 80 40 00", 5}, {"08 00 00 00 01 07 81 80 40 00", 6},
		{"08 00 00 00 01 07 FE FF 3F 02", -1}, {"08 00 00 00 01 07 FF FF 3F 02", 9}, {"08 00 00 00 01 07 80 80 40 02", 9}, {"08 00 00 00 01 07 FE FF 3F 04", 9},
		{"08 00 00 00 01 07 C0 FF 3F 80 80 80 80 80 80 80 80 80 01", -1}, {"08 00 00 00 01 07 C1 FF 3F 80 80 80 80 80 80 80 80 80 01", 9},
		{"08 00 00 00 01 07 00 02", -1}, {"08 00 00 00 01 07 00 00", 7}, {"08 00 00 00 01 07 01 00", -1}, {"08 00 00 00 01 07 01 01", 7}, {"08 00 00 00 01 07 01 03", 7}, {"08 00 00 00 01 07 00 01", 7},
		{"0A 00 00 00 01 01 6B 01 00", -1}, {"0A 00 00 00 01 01 6B 02 00", 7}, {"0A 00 00 00 01 01 6B 00 00 00", -1}, {"0A 00 00 00 01 01 6B 01 00 00", 9},
	} {
		wantAt(t, hx(t, c.text), c.at)
	}
}

// wantAt: the bytes go wrong at this place; they are a message, if it is -1.
func wantAt(t *testing.T, b []byte, at int) {
	t.Helper()
	if at >= 0 {
		wantWrong(t, b, at)
		return
	}
	m, _, err := Decode(b)
	if err != api.OK {
		t.Errorf("Decode(% x): %d", b, err)
		return
	}
	again, err := Encode(m)
	wantBytes(t, "Encode of what was read", again, err, b)
}

// TestP606Texts: a length that may be, and bytes enough.
func TestP606Texts(t *testing.T) {
	for n := range 20 {
		b := slices.Concat([]byte{4, 0, 0, 0, byte(n)}, bytes.Repeat([]byte{0xFF}, n))
		if n >= 1 && n <= 16 {
			wantAt(t, b, -1)
			wantWrong(t, b[:len(b)-1], len(b)-1)
			wantWrong(t, b[:5], 5)
		} else {
			wantWrong(t, b, 4)
			wantWrong(t, b[:5], 4)
		}
	}
	for n := range 70 {
		b := slices.Concat([]byte{10, 0, 0, 0, 1, 1, 'k', 0, byte(n)}, bytes.Repeat([]byte{0xFF}, n), []byte{0})
		if n <= 64 {
			wantAt(t, b, -1)
			wantWrong(t, b[:len(b)-1], len(b)-1)
			wantWrong(t, b[:9], 9)
			wantWrong(t, b[:9+n/2], 9+n/2)
		} else {
			wantWrong(t, b, 8)
			wantWrong(t, b[:9], 8)
		}
	}
}

// TestP606NodesRise: of a set's spans, in a message and in a context.
func TestP606NodesRise(t *testing.T) {
	for _, c := range []struct {
		text string
		at   int
	}{
		{"02 00 01 00 01 01 00", -1}, {"02 00 01 00 00 01 00", 4}, {"02 03 01 00 03 01 00", 4}, {"02 03 01 00 02 01 00", 4}, {"02 03 01 00 00 01 00", 4}, {"02 03 01 00 07 01 00", -1},
		{"03 00 01 00 02 01 00 01 01 00", 7}, {"03 00 01 00 02 01 00 02 01 00", 7}, {"02 07 01 00 07 01 00", 4}, {"02 07 01 00 08 01 00", 4}, {"02 03 01 00 02", 4}, {"02 03 01 00 82 00", 4},
		{"08 00 01 00 01 01 00 02 01 00 03 01 00 04 01 00 05 01 00 06 01 00 07 01 00", -1}, {"08 00 01 00 01 01 00 02 01 00 03 01 00 04 01 00 05 01 00 06 01 00 06 01 00", 22},
	} {
		for _, head := range []string{"08 00 00 00", "0A 00 00 00 80 80 40 01 6B 01"} {
			b := hx(t, head+c.text)
			if c.at < 0 {
				wantAt(t, b, -1)
			} else {
				wantWrong(t, b, len(hx(t, head))+c.at)
			}
		}
	}
}

// TestP606BitsOfTell: none, in the set of MsgTell alone; the contexts of its writes may have some.
func TestP606BitsOfTell(t *testing.T) {
	wantAt(t, hx(t, "05 00 00 00 01 6B 01 03 02 00 00"), -1)
	wantAt(t, hx(t, "05 00 00 00 01 6B 01 03 02 02 00"), 9)
	wantAt(t, hx(t, "05 00 00 00 01 6B 01 03 00 02 00"), 9)
	wantAt(t, hx(t, "05 00 00 00 01 6B 01 03 00 00 00"), 9)
	wantAt(t, hx(t, "05 00 00 00 01 6B 02 03 02 00 04 01 04 00"), 12)
	wantAt(t, hx(t, "05 00 00 00 01 6B 02 03 02 00 04 01 84"), 13)
	wantAt(t, hx(t, "05 00 00 00 01 6B 01 03 02 00 01 00 01 01 6B 01 01 03 02 02"), -1)
	wantAt(t, hx(t, "09 00 00 00 01 03 02 02 00"), -1)
}

// TestP606OwnDot: a context with the write's own dot is wrong at its beginning, once it has been read.
func TestP606OwnDot(t *testing.T) {
	for _, c := range []struct {
		text string
		at   int
	}{
		{"02 03 01 6B 01 01 02 02 00", -1}, {"02 03 01 6B 01 01 02 03 00", 5}, {"02 03 01 6B 01 01 02 09 00", 5}, {"02 03 01 6B 01 01 02 01 02", 5}, {"02 03 01 6B 01 01 02 00 04", 5}, {"02 03 01 6B 01 01 02 00 0A", -1}, {"02 03 01 6B 01 01 02 02 02", -1},
		{"02 03 01 6B 01 01 01 03 00", -1}, {"02 03 01 6B 01 01 03 03 00", -1}, {"02 03 01 6B 01 02 02 03 00 03 01 00", 5}, {"02 03 01 6B 01 02 00 01 00 02 03 00", 5}, {"02 03 01 6B 01 03 00 01 00 02 03 00 07 01 00", 5},
		{"02 03 01 6B 00 02 61 62 01 02 03 00", 8}, {"02 40 01 6B 01 01 02 00 80 80 80 80 80 80 80 80 80 01", 5}, {"02 41 01 6B 01 01 02 00 80 80 80 80 80 80 80 80 80 01", -1}, {"02 80 80 40 01 6B 01 01 02 80 80 40 00", 7},
		// what is wrong in the context comes ahead of it, and the end of the bytes too
		{"02 03 01 6B 01 01 02 03 01", 8}, {"02 03 01 6B 01 01 02 03", 8}, {"02 03 01 6B 01 01 02 03 82", 9}, {"02 03 01 6B 01 02 02 03 00", 9}, {"02 03 01 6B 01 02 02 03 00 02", 9}, {"02 03 01 6B 01 02 02 03 00 03", 10}, {"02 03 01 6B 01 02 02 03 00 03 00 00", 11},
	} {
		write := hx(t, c.text)
		back := slices.Concat([]byte{10, 0, 0}, write)
		if c.at < 0 {
			wantAt(t, back, -1)
			continue
		}
		wantNoWrite(t, write, 0, c.at, api.ErrWire)
		wantWrong(t, back, 3+c.at)
		if c.at == 5 { // and what is behind the write comes behind it
			wantWrong(t, append(back, 0xFF), 8)
			wantWrong(t, slices.Concat([]byte{9, 0, 0, 0, 0, 2}, write), 11)
			wantWrong(t, slices.Concat([]byte{9, 0, 0, 0, 0, 2}, write, write), 11)
		}
	}
}

// TestP606HowManyWrites: the number of writes, at its bound and past it, by kinds.
func TestP606HowManyWrites(t *testing.T) {
	for _, c := range []struct {
		ahead []byte
		most  int
	}{
		{[]byte{5, 0, 0, 0, 1, 'k', 0}, 8}, {[]byte{7, 0, 0, 0, 0, 1, 'k'}, 32}, {[]byte{9, 0, 0, 0, 0}, 512},
	} {
		for _, n := range []int{0, 1, 7, 8, 9, 31, 32, 33, 511, 512, 513, 1 << 20} {
			b := slices.Concat(c.ahead, plainNumber(uint64(n)))
			for _, w := range row("k", min(n, 600)) {
				b = append(b, join(writeFields(w))...)
			}
			if n <= c.most {
				wantAt(t, b, -1)
			} else {
				wantWrong(t, b, len(c.ahead))
			}
		}
		wantWrong(t, slices.Concat(c.ahead, plainNumber(math.MaxUint64)), len(c.ahead))
		wantWrong(t, slices.Concat(c.ahead, plainNumber(uint64(c.most))), len(c.ahead)+len(plainNumber(uint64(c.most))))
	}
}

// TestP606DotsRise: behind the write (1, 2) k, dead, without a context.
func TestP606DotsRise(t *testing.T) {
	heads := [][]byte{{5, 0, 0, 0, 1, 'k', 0, 2}, {7, 0, 0, 0, 0, 1, 'k', 2}, {9, 0, 0, 0, 0, 2}}
	for _, head := range heads {
		ahead := slices.Concat(head, hx(t, "01 02 01 6B 01 00"))
		for _, c := range []struct {
			text string
			at   int // from the second write's beginning on
		}{
			{"01 03 01 6B 01 00", -1}, {"02 01 01 6B 01 00", -1}, {"02 02 01 6B 01 00", -1}, {"01 80 80 40 01 6B 01 00", -1}, {"07 01 01 6B 01 00", -1},
			{"01 02 01 6B 01 00", 0}, {"01 01 01 6B 01 00", 0}, {"00 02 01 6B 01 00", 0}, {"00 03 01 6B 01 00", 0}, {"00 80 80 40 01 6B 01 00", 0}, {"00 01 01 6B 01 00", 0},
			// both numbers are read ahead of it, and nothing behind them
			{"01 02", 0}, {"00 03", 0}, {"00 03 00", 0}, {"01 02 91", 0}, {"01 02 01 6B 07", 0}, {"00", 1}, {"00 81", 2}, {"00 00", 1}, {"01 00", 1}, {"00 81 80 40", 1}, {"00 82 00", 1}, {"80 00 01", 0}, {"08 01", 0}, {"", 0},
			// and what rises is read on
			{"01 03", 2}, {"01 03 00", 2}, {"02 01 11", 2}, {"01 03 01", 3},
		} {
			b := slices.Concat(ahead, hx(t, c.text))
			if c.at < 0 {
				wantAt(t, b, -1)
			} else {
				wantWrong(t, b, len(ahead)+c.at)
			}
		}
	}
}

// TestP606DotsRiseOverTheLast: each write over the one just ahead of it.
func TestP606DotsRiseOverTheLast(t *testing.T) {
	head := []byte{9, 0, 0, 0, 0, 3}
	one, two := hx(t, "01 02 01 6B 01 00"), hx(t, "03 02 01 6B 01 00")
	wantAt(t, slices.Concat(head, one, two, hx(t, "03 03 01 6B 01 00")), -1)
	for _, third := range []string{"01 03 01 6B 01 00", "02 09 01 6B 01 00", "03 01 01 6B 01 00", "03 02 01 6B 01 00"} {
		wantWrong(t, slices.Concat(head, one, two, hx(t, third)), 18)
	}
}

// TestP606OfThisKey: in the lists of MsgTell and MsgFound, of the key ab.
func TestP606OfThisKey(t *testing.T) {
	heads := [][]byte{{5, 0, 0, 0, 2, 'a', 'b', 0}, {7, 0, 0, 0, 0, 2, 'a', 'b'}}
	for _, head := range heads {
		for _, c := range []struct {
			text string
			at   int // from the write's beginning on
		}{
			{"01 03 02 61 62 01 00", -1}, {"01 03 02 61 63 01 00", 0}, {"01 03 02 62 62 01 00", 0}, {"01 03 01 61 01 00", 0}, {"01 03 03 61 62 00 01 00", 0}, {"01 03 02 41 42 01 00", 0},
			// the key is read to its end ahead of it, and nothing behind
			{"01 03 02 61 63", 0}, {"01 03 02 61 63 02", 0}, {"01 03 02 61 63 81", 0}, {"01 03 02 63", 4}, {"01 03 01", 3}, {"01 03 00", 2}, {"01 03 11 61 61 61 61 61 61 61 61 61 61 61 61 61 61 61 61 61", 2}, {"01 03 81 00 61", 2}, {"01 00 01 61", 1}, {"08 03 01 61", 0},
			{"01 03 02 61 62 02", 5}, {"01 03 02 61 62", 5},
		} {
			first := slices.Concat(head, []byte{1}, hx(t, c.text))
			second := slices.Concat(head, []byte{2}, hx(t, "01 02 02 61 62 01 00"), hx(t, c.text))
			for _, b := range [][]byte{first, second} {
				if c.at < 0 {
					wantAt(t, b, -1)
				} else {
					wantWrong(t, b, len(b)-len(hx(t, c.text))+c.at)
				}
			}
		}
	}
	wantAt(t, hx(t, "09 00 00 00 00 02 01 02 01 62 01 00 01 03 01 61 01 00"), -1)
}

// TestP606FirstCounts: of two wrong fields the first one.
func TestP606FirstCounts(t *testing.T) {
	for _, m := range samples() {
		fields := msgFields(m)
		var places []int // of the fields that may be wrong by themselves
		for i, f := range fields {
			if len(wrongNumbers(f.name)) > 0 {
				places = append(places, i)
			}
		}
		for k, i := range places[:min(len(places), 60)] {
			for _, j := range places[k+1 : min(len(places), k+20)] {
				spoilt := slices.Clone(fields)
				spoilt[i].number, spoilt[j].number = wrongNumbers(fields[i].name)[0], wrongNumbers(fields[j].name)[0]
				wantWrong(t, join(spoilt), len(join(fields[:i])))
			}
		}
	}
}

func TestP607Places(t *testing.T) {
	for _, w := range goodWrites() {
		b := join(writeFields(w))
		for _, ahead := range []string{"", "\x00", "\xff\xff\xff", "0123456789"} {
			for _, behind := range []string{"", "\x00", "\xff\xff", "\x01\x02\x01k"} {
				all := slices.Concat([]byte(ahead), b, []byte(behind))
				wantGetWrite(t, all, len(ahead), w, len(ahead)+len(b))
				all = slices.Concat([]byte(ahead), join(setFields(w.Ctx)), []byte(behind))
				wantGetSet(t, all, len(ahead), w.Ctx, len(all)-len(behind))
			}
			for cut := range b {
				all := slices.Concat([]byte(ahead), b[:cut])
				wantNoWrite(t, all, len(ahead), len(all), api.ErrWire)
			}
			set := join(setFields(w.Ctx))
			for cut := range set {
				all := slices.Concat([]byte(ahead), set[:cut])
				wantNoSet(t, all, len(ahead), len(all), api.ErrWire)
			}
		}
	}
}

func TestP607ErrArg(t *testing.T) {
	for _, b := range [][]byte{nil, {}, {0}, {1, 2, 5, 10}, {1, 2, 1, 'k', 1, 0}} {
		for _, at := range []int{-1, -2, math.MinInt, len(b) + 1, len(b) + 2, math.MaxInt} {
			wantNoSet(t, b, at, 0, api.ErrArg)
			wantNoWrite(t, b, at, 0, api.ErrArg)
		}
		wantNoSet(t, b, len(b), len(b), api.ErrWire)
		wantNoWrite(t, b, len(b), len(b), api.ErrWire)
	}
	// spare room is no part of the bytes
	b := []byte{0, 1, 2, 1, 'k', 1, 0}[:1]
	wantGetSet(t, b, 0, nil, 1)
	wantNoSet(t, b, 1, 1, api.ErrWire)
	wantNoWrite(t, b, 1, 1, api.ErrWire)
	wantNoSet(t, b, 2, 0, api.ErrArg)
}

func TestP607WrongSets(t *testing.T) {
	for _, c := range []struct {
		text string
		at   int
	}{
		{"09", 0}, {"89", 1}, {"81 00", 0}, {"01 08", 1}, {"01 03 81 80 40", 2}, {"01 03 05 01", 3}, {"01 03 00 00", 3}, {"02 03 01 00 03", 4}, {"01", 1}, {"01 03", 2}, {"01 03 05", 3}, {"01 03 05 82", 4},
	} {
		set := hx(t, c.text)
		wantNoSet(t, set, 0, c.at, api.ErrWire)
		wantNoSet(t, append([]byte{0xFF, 1}, set...), 2, 2+c.at, api.ErrWire)
		wantNoWrite(t, append(hx(t, "00 63 01 6B 01"), set...), 0, 5+c.at, api.ErrWire)
	}
}

func TestP608ThereAndBack(t *testing.T) {
	for _, m := range samples() {
		b := encoded(t, m)
		wantDecoded(t, b, m)
		got, _, _ := Decode(b)
		again, err := Encode(got)
		wantBytes(t, "Encode of what was read", again, err, b)
	}
}

func TestP608Beginnings(t *testing.T) {
	for _, m := range samples() {
		b := encoded(t, m)
		for cut := range b {
			wantWrong(t, b[:cut], cut)
			wantWrong(t, slices.Clip(slices.Clone(b[:cut])), cut)
		}
	}
}

func TestP608BytesLeft(t *testing.T) {
	for _, m := range samples() {
		b := encoded(t, m)
		for _, behind := range [][]byte{{0}, {0xFF}, {1}, {0, 0, 0}, b} {
			wantWrong(t, slices.Concat(b, behind), len(b))
		}
	}
}
