package wire

import (
	"bytes"
	"math"
	"slices"
	"strings"
	"testing"

	"rookery/api"
)

// noSets: lists that are no set, each for one reason.
func noSets() [][]api.Span {
	return [][]api.Span{
		spans(sp(-1, 1)), spans(sp(8, 1)), spans(sp(0, 1), sp(0, 1)), spans(sp(1, 1), sp(0, 1)), spans(sp(0, 0)), spans(sp(0, 1), sp(1, 0)),
		spans(sp(0, -1)), spans(sp(0, -1, 1)), spans(sp(0, api.MaxCount+1)), spans(sp(0, 1), sp(1, 0, 1)), spans(sp(1, api.MaxCount-1, api.MaxCount+1)),
		spans(sp(0, math.MaxInt)), spans(sp(math.MinInt, 1), sp(0, 1)), spans(api.Span{Base: 5, Bits: math.MaxUint64}), append(eight(), sp(7, 10)), append(eight(), sp(8, 1)),
	}
}

func noDots() []api.Dot {
	return []api.Dot{
		dot(-1, 1), dot(8, 1), dot(0, 0), dot(3, 0), dot(0, -1), dot(7, api.MaxCount+1), {},
		dot(math.MinInt, 1), dot(math.MaxInt, 1), dot(0, math.MinInt), dot(0, math.MaxInt), dot(256, 1), dot(1<<32, 1),
	}
}

func noKeys() []string { return []string{"", longKey + "g", strings.Repeat("k", 300)} }

// goodWrites: writes at the edges of what is good.
func goodWrites() []api.Write {
	return list(wr(0, 1), wr(7, 1), wr(0, api.MaxCount), wr(7, api.MaxCount), of(longKey, wr(1, 2)), of("\x00", wr(1, 2)), of("\xff\xfe", wr(1, 2)),
		with("", wr(1, 2)), with("v", wr(1, 2)), with(longValue, wr(1, 2)), gone(wr(1, 2)), gone(wr(1, 2, eight()[3:]...)),
		wr(1, 2, sp(1, 1)), wr(1, 2, sp(1, 1, 3)), wr(1, 2, sp(1, 0, 3, 64)), wr(1, 2, sp(2, 2)), wr(1, 2, sp(0, 9), sp(2, 9)), wr(2, 65, sp(2, 1, 64)), wr(2, 66, sp(2, 1, 65)),
		wr(1, api.MaxCount, sp(1, api.MaxCount-1)), wr(0, 1, eight()...), widest(0, 1), widest(7, api.MaxCount), widest(3, 128))
}

// noWrites: writes that are not good, each for one reason.
func noWrites() []api.Write {
	l := list(with(longValue+"v", wr(1, 2)), with(strings.Repeat("v", 999), wr(1, 2)),
		wr(1, 2, sp(1, 2)), wr(1, 2, sp(1, 9)), wr(1, 2, sp(1, 0, 2)), wr(1, 64, sp(0, 1), sp(1, 0, 64), sp(2, 1)), wr(1, api.MaxCount, sp(1, api.MaxCount)), wr(2, 65, sp(2, 1, 65)))
	for _, value := range []string{"v", "\x00", longValue, longValue + "v"} {
		w := with(value, wr(1, 2))
		w.Dead = true
		l = append(l, w)
	}
	for _, d := range noDots() {
		l = append(l, wr(d.Node, d.Count))
	}
	for _, key := range noKeys() {
		l = append(l, of(key, wr(1, 2)), of(key, gone(wr(1, 2))))
	}
	for _, s := range noSets() {
		l = append(l, wr(7, 1<<19, s...))
	}
	return l
}

func TestP601Sets(t *testing.T) {
	for _, s := range [][]api.Span{nil, {}, eight(), plainEight(), spans(sp(0, 1)), spans(sp(7, api.MaxCount)), spans(sp(3, 0, 64))} {
		b, err := PutSet(s)
		wantBytes(t, "PutSet", b, err, join(setFields(s)))
		wantGetSet(t, b, 0, s, len(b))
	}
	for _, s := range noSets() {
		b, err := PutSet(s)
		wantRefused(t, "PutSet of no set", b, err, api.ErrSet)
	}
}

func TestP601Writes(t *testing.T) {
	for _, w := range goodWrites() {
		b, err := PutWrite(w)
		wantBytes(t, "PutWrite", b, err, join(writeFields(w)))
		wantGetWrite(t, b, 0, w, len(b))
	}
	for _, w := range noWrites() {
		b, err := PutWrite(w)
		wantRefused(t, "PutWrite of no good write", b, err, api.ErrWrite)
	}
}

// TestP601WithinMessages: a message's writes are looked at as one by itself is.
func TestP601WithinMessages(t *testing.T) {
	for _, kind := range []int{api.MsgStore, api.MsgKeep, api.MsgShip, api.MsgBack} {
		for _, w := range goodWrites() {
			wantValid(t, api.Msg{Kind: kind, Writes: list(w)})
		}
		for _, w := range noWrites() {
			wantNotValid(t, api.Msg{Kind: kind, Writes: list(w)})
			wantNotValid(t, api.Msg{Kind: kind, Writes: list(wr(0, 1), w)})
		}
	}
	for _, kind := range []int{api.MsgTell, api.MsgFound} {
		for _, w := range goodWrites() {
			wantValid(t, api.Msg{Kind: kind, Key: w.Key, Writes: list(w)})
		}
		for _, w := range noWrites() {
			wantNotValid(t, api.Msg{Kind: kind, Key: w.Key, Writes: list(w)})
		}
	}
}

func wantValid(t *testing.T, m api.Msg) {
	t.Helper()
	if !Valid(m) {
		t.Errorf("Valid(%+v): false", m)
	}
	b, err := Encode(m)
	wantBytes(t, "Encode", b, err, join(msgFields(m)))
	wantDecoded(t, b, m)
}

func wantNotValid(t *testing.T, m api.Msg) {
	t.Helper()
	if Valid(m) {
		t.Errorf("Valid(%+v): true", m)
	}
	b, err := Encode(m)
	wantRefused(t, "Encode of no message", b, err, api.ErrMsg)
}

// trial: something that is put into a message's field, whose name is that of P602's table.
type trial struct {
	name string
	good bool // if the kind names the field
	zero bool // if it doesn't
	put  func(m *api.Msg)
}

// numberTrials: a field that is a number, from 0 to most.
func numberTrials(name string, most int, field func(m *api.Msg) *int) []trial {
	var l []trial
	for _, n := range []int{0, 1, most - 1, most, most + 1, -1, math.MinInt, math.MaxInt, 1 << 32} {
		l = append(l, trial{name, n >= 0 && n <= most, n == 0, func(m *api.Msg) { *field(m) = n }})
	}
	return l
}

func trials() []trial {
	l := numberTrials("Call", 4096, func(m *api.Msg) *int { return &m.Call })
	l = append(l, numberTrials("Owner", 7, func(m *api.Msg) *int { return &m.Owner })...)
	l = append(l, numberTrials("Range", 15, func(m *api.Msg) *int { return &m.Range })...)
	for _, key := range append(noKeys(), "k", "\x00", longKey) {
		l = append(l, trial{"Key", key != "" && len(key) <= 16, key == "", func(m *api.Msg) { m.Key = key }})
	}
	for _, d := range noDots() {
		l = append(l, trial{"Dot", false, d == api.Dot{}, func(m *api.Msg) { m.Dot = d }})
	}
	for _, d := range []api.Dot{dot(0, 1), dot(7, 1), dot(0, api.MaxCount), dot(7, api.MaxCount)} {
		l = append(l, trial{"Dot", true, false, func(m *api.Msg) { m.Dot = d }})
	}
	for _, s := range noSets() {
		l = append(l, trial{"Set", false, false, func(m *api.Msg) { m.Set = s }})
	}
	for _, s := range [][]api.Span{nil, {}, plainEight(), spans(sp(7, 1))} {
		l = append(l, trial{"Set", true, len(s) == 0, func(m *api.Msg) { m.Set = s }})
	}
	return l
}

// TestP602EachField: of each kind each field, named or not, each with what may stand there and what may not.
func TestP602EachField(t *testing.T) {
	for _, m := range samples() {
		for _, try := range trials() {
			if try.name == "Key" && len(m.Writes) > 0 {
				continue // TestP602OfThisKey has it
			}
			changed := m
			try.put(&changed)
			named := slices.Contains(table(m.Kind), try.name)
			if named && try.good || !named && try.zero {
				wantValid(t, changed)
			} else {
				wantNotValid(t, changed)
			}
		}
	}
}

func TestP602FromTo(t *testing.T) {
	for _, m := range samples() {
		for _, try := range append(numberTrials("From", 7, func(m *api.Msg) *int { return &m.From }), numberTrials("To", 7, func(m *api.Msg) *int { return &m.To })...) {
			changed := m
			try.put(&changed)
			if try.good {
				wantValid(t, changed)
			} else {
				wantNotValid(t, changed)
			}
		}
	}
}

func TestP602Kinds(t *testing.T) {
	kinds := map[int]int{}
	for _, m := range samples() {
		wantValid(t, m)
		kinds[m.Kind]++
		for _, kind := range []int{0, -1, 12, 13, 255, 256 + m.Kind, math.MinInt, math.MaxInt, -m.Kind} {
			changed := m
			changed.Kind = kind
			wantNotValid(t, changed)
		}
	}
	if len(kinds) != 11 {
		t.Errorf("samples of %d kinds", len(kinds))
	}
	wantNotValid(t, api.Msg{})
}

// TestP602HowManyWrites: one, up to a bound, or none, as the kind says.
func TestP602HowManyWrites(t *testing.T) {
	least := map[int]int{api.MsgStore: 1, api.MsgKeep: 1, api.MsgBack: 1}
	most := map[int]int{api.MsgStore: 1, api.MsgKeep: 1, api.MsgBack: 1, api.MsgTell: 8, api.MsgFound: 32, api.MsgShip: 512}
	for _, m := range samples() {
		for _, n := range []int{0, 1, 2, 7, 8, 9, 10, 31, 32, 33, 34, 511, 512, 513, 600} {
			changed := m
			changed.Writes = row("k", n)
			if m.Key != "" {
				changed.Writes = row(m.Key, n)
			}
			if n >= least[m.Kind] && n <= most[m.Kind] {
				wantValid(t, changed)
			} else {
				wantNotValid(t, changed)
			}
		}
	}
}

func TestP602DotsRise(t *testing.T) {
	for _, kind := range []int{api.MsgTell, api.MsgFound, api.MsgShip} {
		m := api.Msg{Kind: kind}
		if kind != api.MsgShip {
			m.Key = "k"
		}
		for _, c := range []struct {
			writes []api.Write
			good   bool
		}{
			{list(wr(0, 1), wr(0, 2)), true}, {list(wr(0, 1), wr(1, 1)), true}, {list(wr(0, 9), wr(1, 1)), true}, {list(wr(0, 1), wr(0, 9), wr(1, 1), wr(7, 1)), true},
			{list(wr(0, 1), wr(0, 1)), false}, {list(wr(0, 2), wr(0, 1)), false}, {list(wr(1, 1), wr(0, 1)), false}, {list(wr(1, 1), wr(0, 9)), false},
			{list(wr(0, 1), wr(0, 2), wr(0, 2)), false}, {list(wr(0, 1), wr(0, 3), wr(0, 2)), false}, {list(wr(0, 1), wr(1, 1), wr(0, 2)), false}, {list(with("a", wr(3, 1)), with("b", wr(3, 1))), false},
		} {
			m.Writes = c.writes
			if c.good {
				wantValid(t, m)
			} else {
				wantNotValid(t, m)
			}
		}
	}
}

func TestP602OfThisKey(t *testing.T) {
	for _, kind := range []int{api.MsgTell, api.MsgFound} {
		for _, key := range []string{"k", "ab", longKey, "\x00"} {
			wantValid(t, api.Msg{Kind: kind, Key: key, Writes: row(key, 3)})
			for _, other := range []string{"j", "k\x00", "a", "abc", "AB", longKey[1:], "\x00\x00"} {
				wantNotValid(t, api.Msg{Kind: kind, Key: key, Writes: list(of(other, wr(0, 1)))})
				wantNotValid(t, api.Msg{Kind: kind, Key: key, Writes: list(of(key, wr(0, 1)), of(other, wr(0, 2)), of(key, wr(0, 3)))})
			}
		}
		wantNotValid(t, api.Msg{Kind: kind, Writes: row("k", 1)})
	}
	wantValid(t, api.Msg{Kind: api.MsgShip, Writes: list(of("b", wr(0, 1)), of("a", wr(0, 2)), of("b", wr(0, 3)))})
}

func TestP602BitsOfSets(t *testing.T) {
	for _, s := range [][]api.Span{eight(), spans(sp(0, 0, 2)), spans(sp(0, 1), sp(1, 1, 64)), spans(sp(0, 1), sp(1, 1, 3), sp(2, 1))} {
		wantValid(t, api.Msg{Kind: api.MsgClock, Set: s})
		wantValid(t, api.Msg{Kind: api.MsgShip, Set: s})
		wantNotValid(t, api.Msg{Kind: api.MsgTell, Key: "k", Set: s})
		wantValid(t, api.Msg{Kind: api.MsgTell, Key: "k", Writes: list(wr(7, 999, s...))})
	}
}

// TestP602EmptyLists: an empty list is as good as none.
func TestP602EmptyLists(t *testing.T) {
	for _, m := range samples() {
		if len(m.Set) == 0 {
			m.Set = []api.Span{}
		}
		if len(m.Writes) == 0 {
			m.Writes = []api.Write{}
		}
		for i, w := range m.Writes {
			if w.Dead {
				m.Writes[i].Value = []byte{}
			}
		}
		wantValid(t, m)
	}
}

// TestP603Numbers: each number's bytes, where a set has it as a base and as bits.
func TestP603Numbers(t *testing.T) {
	for _, c := range []struct {
		n    uint64
		text string
	}{
		{0, "00"}, {1, "01"}, {2, "02"}, {10, "0A"}, {126, "7E"}, {127, "7F"}, {128, "80 01"}, {129, "81 01"}, {300, "AC 02"}, {16382, "FE 7F"}, {16383, "FF 7F"}, {16384, "80 80 01"},
		{1 << 20, "80 80 40"}, {1<<20 - 1, "FF FF 3F"}, {1<<21 - 2, "FE FF 7F"}, {1 << 21, "80 80 80 01"}, {1 << 35, "80 80 80 80 80 01"}, {1<<56 - 2, "FE FF FF FF FF FF FF 7F"},
		{1 << 56, "80 80 80 80 80 80 80 80 01"}, {1<<63 - 2, "FE FF FF FF FF FF FF FF 7F"}, {1 << 63, "80 80 80 80 80 80 80 80 80 01"}, {1<<64 - 2, "FE FF FF FF FF FF FF FF FF 01"},
	} {
		if c.n >= 1 && c.n <= 1<<20 {
			wantNumber(t, spans(sp(3, int(c.n))), "01 03 "+c.text+" 00")
		}
		if c.n%2 == 0 {
			wantNumber(t, spans(api.Span{Node: 3, Base: 5, Bits: c.n}), "01 03 05 "+c.text)
		}
	}
	for n := 1; n <= api.MaxCount; n += 1 + n/300 {
		s := spans(sp(3, n))
		b, err := PutSet(s)
		wantBytes(t, "PutSet", b, err, join(setFields(s)))
		wantGetSet(t, b, 0, s, len(b))
	}
}

func wantNumber(t *testing.T, s []api.Span, text string) {
	t.Helper()
	b, err := PutSet(s)
	wantBytes(t, "PutSet", b, err, hx(t, text))
	wantGetSet(t, hx(t, text), 0, s, len(hx(t, text)))
}

// TestP603OneForm: of each number of each sample every longer form is wrong.
func TestP603OneForm(t *testing.T) {
	for _, m := range samples() {
		fields := msgFields(m)
		at := 0
		for i, f := range fields {
			own := f.bytes()
			ahead, behind := join(fields[:i]), join(fields[i+1:])
			if f.name != "key" && f.name != "value" {
				for more := 1; len(own)+more <= 10; more++ {
					long := slices.Concat(own, bytes.Repeat([]byte{0x80}, more-1), []byte{0})
					long[len(own)-1] |= 0x80
					wantWrong(t, slices.Concat(ahead, long, behind), at)
				}
			}
			at += len(own)
		}
	}
}

// TestP603TenthByte: the tenth byte is 1, and the last one whatever it is.
func TestP603TenthByte(t *testing.T) {
	for c := range 256 {
		for _, low := range []byte{0x80, 0xFE} {
			b := append([]byte{1, 3, 5, low}, bytes.Repeat([]byte{low}, 8)...)
			b = append(b, byte(c), 0, 0, 0)
			if c == 1 {
				if s, at, err := GetSet(b, 0); len(s) != 1 || s[0].Bits>>63 != 1 || at != 13 || err != api.OK {
					t.Errorf("GetSet(% x): %v, %d, %d", b, s, at, err)
				}
			} else {
				wantNoSet(t, b, 0, 3, api.ErrWire)
			}
			wantNoSet(t, b[:12], 0, 12, api.ErrWire)
		}
	}
}

// TestP604Messages: the bytes of each sample, field by field.
func TestP604Messages(t *testing.T) {
	for _, m := range samples() {
		b, err := Encode(m)
		wantBytes(t, "Encode", b, err, join(msgFields(m)))
	}
}

// TestP604InBytes: a message of each kind, as it stands.
func TestP604InBytes(t *testing.T) {
	one, dead := with("v", wr(1, 2, sp(0, 3, 5))), gone(of("ab", wr(2, 300)))
	for _, c := range []struct {
		m    api.Msg
		text string
	}{
		{api.Msg{Kind: 1, From: 2, To: 3, Call: 4, Writes: list(one)}, "01 02 03 04 01 02 01 6B 00 01 76 01 00 03 02"},
		{api.Msg{Kind: 2, From: 2, To: 3, Call: 4, Owner: 5}, "02 02 03 04 05"},
		{api.Msg{Kind: 3, From: 2, To: 3, Call: 4, Owner: 5, Writes: list(dead)}, "03 02 03 04 05 02 AC 02 02 61 62 01 00"},
		{api.Msg{Kind: 4, From: 2, To: 3, Call: 4, Key: "ab"}, "04 02 03 04 02 61 62"},
		{api.Msg{Kind: 5, From: 2, To: 3, Call: 4, Key: "k", Set: spans(sp(6, 7)), Writes: list(one)}, "05 02 03 04 01 6B 01 06 07 00 01 01 02 01 6B 00 01 76 01 00 03 02"},
		{api.Msg{Kind: 6, From: 2, To: 3, Call: 4, Owner: 5, Key: "ab"}, "06 02 03 04 05 02 61 62"},
		{api.Msg{Kind: 7, From: 2, To: 3, Call: 4, Owner: 5, Key: "ab", Writes: list(dead)}, "07 02 03 04 05 02 61 62 01 02 AC 02 02 61 62 01 00"},
		{api.Msg{Kind: 8, From: 2, To: 3, Range: 4, Set: spans(sp(6, 7, 9))}, "08 02 03 04 01 06 07 02"},
		{api.Msg{Kind: 9, From: 2, To: 3, Range: 4, Set: spans(sp(6, 7, 9)), Writes: list(one, dead)}, "09 02 03 04 01 06 07 02 02 01 02 01 6B 00 01 76 01 00 03 02 02 AC 02 02 61 62 01 00"},
		{api.Msg{Kind: 10, From: 2, To: 3, Writes: list(one)}, "0A 02 03 01 02 01 6B 00 01 76 01 00 03 02"},
		{api.Msg{Kind: 11, From: 2, To: 3, Key: "ab", Dot: dot(2, 300)}, "0B 02 03 02 61 62 02 AC 02"},
	} {
		b, err := Encode(c.m)
		wantBytes(t, "Encode", b, err, hx(t, c.text))
		wantDecoded(t, hx(t, c.text), c.m)
	}
}

// TestP605Widest: the message with the most of everything.
func TestP605Widest(t *testing.T) {
	m := api.Msg{Kind: api.MsgShip, From: 7, To: 7, Range: 15, Set: eight()}
	for i := range api.MaxWrites {
		m.Writes = append(m.Writes, widest(i/64, api.MaxCount-63+i%64))
	}
	wantValid(t, m)
	m.Writes = append(m.Writes[:1:1], append(list(of("z", wr(0, api.MaxCount-62))), m.Writes[2:]...)...)
	wantValid(t, m)
	m.Writes = append(list(wr(0, 1)), m.Writes...)
	wantNotValid(t, m)
}
