package page

import (
	"math"
	"slices"
	"testing"
)

func TestP705Sizes(t *testing.T) {
	for _, c := range samples() {
		b := built(t, c)
		for _, size := range []int{0, 1, 2, 7, 8, 100, 1024, 2046, 2047} {
			wantWrong(t, b[:size], size)
			wantWrong(t, slices.Clip(slices.Clone(b[:size])), size)
		}
		wantRight(t, b, c.kind)
		for _, more := range []int{1, 2, 2048, 5000} {
			wantWrong(t, append(slices.Clip(b), make([]byte, more)...), 2048)
		}
	}
	wantWrong(t, []byte{}, 0)
	// the size comes ahead of what stands there
	wantWrong(t, make([]byte, 2049), 2048)
	wantWrong(t, []byte{9, 9, 9}, 3)
}

// bounds: within what a number of a name may lie, whatever stands around it.
func bounds(name string) (least, most uint64) {
	switch name {
	case "kind":
		return 1, 3
	case "clocks":
		return 0, 16
	case "writes":
		return 1, 8
	case "spans":
		return 0, 8
	case "range":
		return 0, 15
	case "owner", "node", "span node":
		return 0, 7
	case "key length":
		return 1, 16
	case "value length":
		return 0, 64
	case "dead":
		return 0, 1
	case "count":
		return 1, 1 << 20
	case "base":
		return 0, 1 << 20
	}
	return 0, math.MaxUint64
}

// wrongNumbers: what may not stand in a field of a name, whatever stands around it.
func wrongNumbers(f field) []uint64 {
	if f.name == "bits" {
		return []uint64{1, 3, 5, 1<<63 + 1, math.MaxUint64}
	}
	least, most := bounds(f.name)
	var l []uint64
	for _, n := range []uint64{0, most + 1, most + 2, 127, 128, 254, 255, 256 + most, 1<<24 + 1, 1 << 31, 1<<32 - 1} {
		if (n < least || n > most) && n>>(8*f.size) == 0 {
			l = append(l, n)
		}
	}
	return l
}

// TestP705EachField: each number of each sample, in turn, as it may not be.
func TestP705EachField(t *testing.T) {
	met := map[string]int{}
	for _, c := range samples() {
		fields := fieldsOf(c)
		for i, f := range fields {
			met[f.name]++
			if f.size == 0 || f.name == "gen" {
				continue
			}
			at := len(join(fields[:i]))
			for _, n := range wrongNumbers(f) {
				spoilt := slices.Clone(fields)
				spoilt[i].number = n
				b := full(join(spoilt))
				wantWrong(t, b, at)
				// what is behind the wrong field doesn't count
				for j := at + f.size; j < len(b); j++ {
					b[j] = 0xFF
				}
				wantWrong(t, b, at)
			}
		}
	}
	if len(met) != 17 {
		t.Errorf("fields met: %v", met)
	}
}

// TestP705FirstCounts: of two wrong fields the first one.
func TestP705FirstCounts(t *testing.T) {
	for _, c := range samples() {
		fields := fieldsOf(c)
		var places []int // of the fields that may be wrong by themselves
		for i, f := range fields {
			if f.size > 0 && len(wrongNumbers(f)) > 0 {
				places = append(places, i)
			}
		}
		for k, i := range places {
			for _, j := range places[k+1 : min(len(places), k+6)] {
				spoilt := slices.Clone(fields)
				spoilt[i].number, spoilt[j].number = wrongNumbers(fields[i])[0], wrongNumbers(fields[j])[0]
				wantWrong(t, full(join(spoilt)), len(join(fields[:i])))
			}
		}
	}
}

// TestP705AnyBytes: a key, a value and a gen may be any.
func TestP705AnyBytes(t *testing.T) {
	for _, c := range samples() {
		fields := fieldsOf(c)
		at := 0
		for _, f := range fields {
			own := f.bytes()
			if f.size == 0 || f.name == "gen" {
				for i := range own {
					for _, n := range []byte{0, 1, 127, 128, 255} {
						b := full(join(fields))
						b[at+i] = n
						wantRight(t, b, c.kind)
					}
				}
			}
			at += len(own)
		}
	}
}

// TestP705BehindTheEnd: each byte there, and of several the first.
func TestP705BehindTheEnd(t *testing.T) {
	for _, c := range samples() {
		end := len(join(fieldsOf(c)))
		for i := end; i < 2048; i++ {
			b := built(t, c)
			b[i] = byte(1 + i%255)
			wantWrong(t, b, i)
			b[2047], b[min(i+7, 2047)] = 255, 1
			wantWrong(t, b, i)
		}
	}
}

// place: what stands behind a head, and the place there that is wrong, or -1.
type place struct {
	text string
	at   int
}

func wantPlaces(t *testing.T, head string, list []place) {
	t.Helper()
	for _, c := range list {
		if c.at < 0 {
			wantAt(t, pg(t, head+c.text), -1)
		} else {
			wantAt(t, pg(t, head+c.text), len(hx(t, head))+c.at)
		}
	}
}

// TestP705Heads: each number of a head at its bounds and past them.
func TestP705Heads(t *testing.T) {
	wantPlaces(t, "", []place{
		{"00", 0}, {"01", -1}, {"04", 0}, {"FF", 0}, {"01 FF FF FF FF FF FF 00", -1}, {"01 00 00 00 00 00 00 11", 7}, {"01 00 00 00 00 00 00 FF", 7}, {"01 00 00 00 00 00 00 10", 10}, {"01 00 00 00 00 00 00 01", -1},
		{"02", 1}, {"02 00 01", 1}, {"02 11", 1}, {"02 FF", 1}, {"02 01 6B 00", 3}, {"02 01 6B 09", 3}, {"02 01 6B FF", 3}, {"02 01 6B 01 00 01", -1}, {"02 01 6B 08", 5},
		{"02 10 61 61 61 61 61 61 61 61 61 61 61 61 61 61 61 61 01 00 01", -1}, {"02 10 61 61 61 61 61 61 61 61 61 61 61 61 61 61 61 61 00", 18},
		{"03 08 01 6B 00 01", 1}, {"03 FF", 1}, {"03 07 01 6B 00 01", -1}, {"03 00 01 6B 00 01", -1}, {"03 07 00", 2}, {"03 07 11", 2}, {"03 07 01 6B 00 00", 5}, {"03 07 01 6B 08 01", 4},
	})
}

// TestP705Ranges: behind a clock of the range 5.
func TestP705Ranges(t *testing.T) {
	wantPlaces(t, "01 00 00 00 00 00 00 02 05 00", []place{{"06", -1}, {"0F", -1}, {"05", 0}, {"04", 0}, {"00", 0}, {"10", 0}, {"FF", 0}})
	wantPlaces(t, "01 00 00 00 00 00 00 03 05 00 0F 00", []place{{"0F", 0}, {"06", 0}, {"10", 0}, {"05", 0}, {"00", 0}})
	wantPlaces(t, "01 00 00 00 00 00 00 01", []place{{"00", -1}, {"0F", -1}, {"10", 0}})
	wantPlaces(t, "01 00 00 00 00 00 00 02 00 00", []place{{"00", 0}, {"01", -1}})
}

// setHeads: what stands ahead of a set: in a clock, and in the contexts of a key's write and of a hint's, each (6, 2).
func setHeads() []string {
	return []string{"01 00 00 00 00 00 00 01 05", "02 01 6B 01 06 02 00 00 00 00 01 76", "03 04 01 6B 06 02 00 00 00 01 00", "01 00 00 00 00 00 00 02 05 01 07 01 00 00 00 00 00 00 00 00 00 00 00 09"}
}

// TestP705Sets: spans at their bounds and past them.
func TestP705Sets(t *testing.T) {
	const no = " 00 00 00 00 00 00 00 00"
	const one = " 01 00 00 00" + no
	for _, head := range setHeads() {
		wantPlaces(t, head, []place{
			{"00", -1}, {"09", 0}, {"FF", 0}, {"01 08", 1}, {"01 FF", 1}, {"01 07" + one, -1}, {"01 00" + one, -1},
			{"01 03 00 00 10 00" + no, -1}, {"01 03 01 00 10 00" + no, 2}, {"01 03 00 00 00 01" + no, 2}, {"01 03 FF FF FF FF", 2}, {"01 03 00 00 00 80", 2},
			{"01 03 00 00 00 00" + no, 6}, {"01 03 01 00 00 00 01", 6}, {"01 03 01 00 00 00 03", 6}, {"01 03 00 00 00 00 01", 6}, {"01 03 00 00 00 00 02", -1}, {"01 03 01 00 00 00 FE FF FF FF FF FF FF FF", -1}, {"01 03 01 00 00 00 FF FF FF FF FF FF FF FF", 6},
			{"01 03 FE FF 0F 00 02", -1}, {"01 03 FF FF 0F 00 02", 6}, {"01 03 00 00 10 00 02", 6}, {"01 03 FE FF 0F 00 04", 6}, {"01 03 C0 FF 0F 00 00 00 00 00 00 00 00 80", -1}, {"01 03 C1 FF 0F 00 00 00 00 00 00 00 00 80", 6},
			{"02 03" + one + " 04" + one, -1}, {"02 03" + one + " 03" + one, 14}, {"02 03" + one + " 02" + one, 14}, {"02 03" + one + " 00" + one, 14}, {"02 03" + one, 14}, {"02 07" + one + " 08", 14}, {"02 07" + one + " 07", 14}, {"02 00" + one + " 07" + one, -1}, {"02 00" + one + " 00" + one, 14}, {"02 00" + one + " 01 00 00 00 00", 19},
			{"03 00" + one + " 02" + one + " 01" + one, 27}, {"03 00" + one + " 02" + one + " 02" + one, 27}, {"03 00" + one + " 02" + one + " 03" + one, -1},
			{"08 00" + one + " 01" + one + " 02" + one + " 03" + one + " 04" + one + " 05" + one + " 06" + one + " 07" + one, -1},
		})
	}
}

// TestP705OwnDot: in a context alone, at the bits of the span that has it.
func TestP705OwnDot(t *testing.T) {
	const no = " 00 00 00 00 00 00 00 00"
	for i, head := range setHeads() {
		own := []place{
			{"01 06 02 00 00 00" + no, 6}, {"01 06 09 00 00 00" + no, 6}, {"01 06 00 00 00 00 02", 6}, {"01 06 00 00 00 00 06", 6}, {"02 06 02 00 00 00" + no + " 07 01", 6}, {"02 05 02 00 00 00" + no + " 06 02", 19},
			// ahead of it comes what stands ahead of it
			{"01 06 02 00 10 00", 2},
		}
		if i == 0 || i == 3 {
			for j := range own[:6] {
				own[j].at = -1
			}
		}
		wantPlaces(t, head, own)
		wantPlaces(t, head, []place{{"01 06 01 00 00 00" + no, -1}, {"01 06 01 00 00 00 02", -1}, {"01 06 00 00 00 00 04", -1}, {"01 05 02 00 00 00" + no, -1}, {"01 07 02 00 00 00" + no, -1}, {"01 05 00 00 00 00 02", -1}})
	}
	wantPlaces(t, "02 01 6B 01 00 40 00 00 00 01 00 01 00", []place{{"00 00 00 00 00 00 00 00 00 00 00 80", 4}, {"00 00 00 00 00 00 00 00 00 00 00 40", -1}, {"3F 00 00 00 02 00 00 00 00 00 00 00", -1}, {"40 00 00 00 00 00 00 00 00 00 00 00", 4}, {"3E 00 00 00 02 00 00 00 00 00 00 00", 4}})
	// each write's own alone: the one ahead may be in a context
	wantPlaces(t, "02 01 6B 02 00 01 00 00 00 01 00 00 00 02 00 00 00 01 00 01 00", []place{{"01", -1}, {"02", 4}})
}

// TestP705Writes: a write's numbers at their bounds and past them.
func TestP705Writes(t *testing.T) {
	for _, head := range []string{"02 01 6B 01", "03 04 01 6B", "02 01 6B 02 00 05 00 00 00 01 00 00"} {
		wantPlaces(t, head, []place{
			{"08 01", 0}, {"FF", 0}, {"07 01", -1}, {"07 00", 1}, {"07 00 00 10 00", -1}, {"07 01 00 10 00", 1}, {"07 00 00 20 00", 1}, {"07 01 00 00 01", 1}, {"07 01 00 00 80", 1}, {"07 FF FF FF FF", 1},
			{"07 01 00 00 00 02", 5}, {"07 01 00 00 00 FF", 5}, {"07 01 00 00 00 01", -1}, {"07 01 00 00 00 01 01", 6}, {"07 01 00 00 00 01 40", 6}, {"07 01 00 00 00 00 41", 6}, {"07 01 00 00 00 00 FF", 6}, {"07 01 00 00 00 00 40", -1}, {"07 01 00 00 00 00 01", -1},
			{"07 01 00 00 00 00 02 FF FF", -1}, {"07 01 00 00 00 00 02 FF FF 09", 9}, {"07 01 00 00 00 00 02 FF FF 00 01", 10},
		})
	}
}

// TestP705DotsRise: behind the write (1, 5).
func TestP705DotsRise(t *testing.T) {
	wantPlaces(t, "02 01 6B 02 01 05 00 00 00 01 00 00", []place{
		{"01 06", -1}, {"02 01", -1}, {"02 05", -1}, {"07 01", -1}, {"01 00 00 10 00", -1}, {"01 05 01", -1},
		{"01 05", 1}, {"01 04", 1}, {"01 01", 1}, {"01 00", 1}, {"02 00", 1}, {"00 06", 0}, {"00 05", 0}, {"00 00 00 10 00", 0}, {"00 00", 0}, {"01 01 00 10 00", 1}, {"08 01", 0},
	})
	// each over the one just ahead of it
	wantPlaces(t, "02 01 6B 03 01 05 00 00 00 01 00 00 03 02 00 00 00 01 00 00", []place{{"03 03", -1}, {"03 02", 1}, {"03 01", 1}, {"02 09", 0}, {"01 06", 0}, {"04 01", -1}})
	wantPlaces(t, "02 01 6B 02 00 00 00 10 00 01 00 00", []place{{"00 00 00 10 00", 1}, {"00 01 00 10 00", 1}, {"01 01", -1}})
}

// TestP705EveryByte: each byte of each sample as any other; of the long ones as a few others.
func TestP705EveryByte(t *testing.T) {
	var all []byte
	for n := range 256 {
		all = append(all, byte(n))
	}
	for _, c := range samples() {
		b, end, some := built(t, c), len(join(fieldsOf(c))), all
		if end > 200 {
			some = []byte{0, 1, 9, 255}
		}
		for i := range end + 2 {
			was := b[i]
			for _, n := range some {
				b[i] = n
				wantAsPlain(t, b)
			}
			b[i] = was
		}
	}
}
