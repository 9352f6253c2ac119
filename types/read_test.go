package types

import (
	"bytes"
	"fmt"
	"math/rand"
	"slices"
	"strings"
	"testing"

	"rookery/api"
)

// TestP1905Forms: values that are read tell the bytes that they were read from.
func TestP1905Forms(t *testing.T) {
	for _, text := range []string{
		"01 00", "01 01 00 00 00 01 00 00", "01 01 FF FF FF FF FF FF", "01 80 00 00 01 00 00 00", "01 FF " + strings.Repeat("01 02 03 04 05 06 ", 8),
		"02 00 00", "02 01 01 00 00", "02 FF " + strings.Repeat("FF FF ", 8) + "00", "02 03 02 00 01 00 01 01 61 03 02 00 01 00",
		"02 01 05 00 02 01 61 01 05 00 08 61 61 61 61 61 61 61 61 01 05 00", "02 01 03 00 01 01 00 01 02 00",
		"03 00 00", "03 01 01 00 00", "03 FF " + strings.Repeat("FF FF ", 8) + "FF " + strings.Repeat("FF FF ", 8), "03 03 02 01 01 00 01 00 01",
		"04 00 00 00 00", "04 01 00 00 00", "04 00 01 00 07", "04 00 00 01 00 00", "04 FF FF FF 07 " + strings.Repeat("FF ", 59),
	} {
		wantBytes(t, of(t, text), text)
	}
}

// TestP1907Errors: in their order, each at its edge.
func TestP1907Errors(t *testing.T) {
	for _, kind := range kinds {
		v, err := Read(kind, nil)
		wantNoValue(t, "Read of no bytes", v, err, api.ErrType)
		v, err = Read(kind, make([]byte, 65))
		wantNoValue(t, "Read of 65 bytes", v, err, api.ErrLong)
		v, err = Read(kind, append([]byte{byte(kind)}, make([]byte, 1<<20)...))
		wantNoValue(t, "Read of a million bytes", v, err, api.ErrLong)
		v, err = Read(kind, make([]byte, 64))
		wantNoValue(t, "Read of 64 zeros", v, err, api.ErrType)
		for _, other := range kinds {
			if b, _ := fresh(t, other).Bytes(); other != kind {
				v, err = Read(kind, b)
				wantNoValue(t, fmt.Sprintf("Read(%d) of % X", kind, b), v, err, api.ErrType)
			}
		}
	}
	v, err := Read(5, make([]byte, 65))
	wantNoValue(t, "Read of no type", v, err, api.ErrArg)
	v, err = Read(Register, append(raw("04 01 00 00 00"), text(60)...))
	wantNoValue(t, "Read of a text of 60 bytes", v, err, api.ErrLong)
}

// TestP1907NoForms: one thing wrong in each.
func TestP1907NoForms(t *testing.T) {
	for what, text := range map[string]string{
		"an actor of a counter with nothing":  "01 03 01 00 00 00 00 00 00 00 00 00 00 00",
		"a counter that ends in a number":     "01 01 01 00 00 00 00",
		"a byte behind a counter":             "01 01 01 00 00 00 00 00 00",
		"a set without entries' number":       "02 01 01 00",
		"a set's count of 0":                  "02 03 00 00 01 00 00",
		"fewer entries than said":             "02 01 02 00 02 01 61 01 01 00",
		"more entries than said":              "02 01 02 00 01 01 61 01 01 00 01 62 01 02 00",
		"a byte behind a set":                 "02 00 00 00",
		"an element of no bytes":              "02 01 01 00 01 00 01 01 00",
		"an element of nine bytes":            "02 01 01 00 01 09 61 61 61 61 61 61 61 61 61 01 01 00",
		"an element that ends early":          "02 01 01 00 01 05 61 61",
		"a set that ends behind its length":   "02 01 01 00 01 01",
		"a set that ends behind its element":  "02 01 01 00 01 01 61",
		"an element without tags":             "02 01 01 00 01 01 61 00",
		"a tag of 0":                          "02 01 01 00 01 01 61 01 00 00",
		"a tag of 0 beside a right one":       "02 03 01 00 01 00 01 01 61 03 01 00 00 00",
		"a tag above its actor's count":       "02 03 01 00 02 00 01 01 61 01 02 00",
		"a tag of an actor without a count":   "02 01 01 00 01 01 61 02 01 00",
		"a tag above its count by a byte":     "02 01 FF 00 01 01 61 01 00 01",
		"an element twice":                    "02 01 02 00 02 01 61 01 01 00 01 61 01 02 00",
		"elements that fall":                  "02 01 02 00 02 01 62 01 01 00 01 61 01 02 00",
		"a beginning behind what is longer":   "02 01 02 00 02 02 61 61 01 01 00 01 61 01 02 00",
		"high bytes ahead of low ones":        "02 01 02 00 02 01 80 01 01 00 01 7F 01 02 00",
		"a flag without tags' row":            "03 01 01 00",
		"a flag's count of 0":                 "03 01 00 00 00",
		"a flag's tag of 0":                   "03 01 01 00 01 00 00",
		"a flag's tag above its count":        "03 03 01 00 02 00 01 02 00",
		"a flag's tag without a count":        "03 01 01 00 02 01 00",
		"a flag that ends in a number":        "03 01 01 00 01 01",
		"a byte behind a flag":                "03 00 00 00",
		"a register without an actor":         "04 01 00 00",
		"a register's actor of 8":             "04 01 00 00 08 61",
		"a register's actor of 255":           "04 01 00 00 FF",
		"an actor with the stamp 0":           "04 00 00 00 07",
		"a text with the stamp 0":             "04 00 00 00 00 61",
		"a text of a zero with the stamp 0":   "04 00 00 00 00 00",
		"a register that ends in its stamp":   "04 01 00",
		"a type that there is not":            "05 00 00",
		"a type of 0":                         "00 00 00",
		"255 entries, none of which is there": "02 00 FF",
	} {
		b := raw(text)
		for _, kind := range kinds {
			v, err := Read(kind, b)
			wantNoValue(t, fmt.Sprintf("Read(%d): %s", kind, what), v, err, api.ErrType)
		}
	}
}

// wantAsPlain: Read answers as the plain reader does.
func wantAsPlain(t *testing.T, kind int, b []byte) bool {
	t.Helper()
	v, err := Read(kind, b)
	p := plainRead(kind, b)
	want := api.OK
	switch {
	case len(b) > 64:
		want = api.ErrLong
	case p == nil:
		want = api.ErrType
	}
	if err != want || (v == nil) != (want != api.OK) {
		t.Errorf("Read(%d, % X): %v, %d; want %d", kind, b, v, err, want)
		return false
	}
	if want != api.OK {
		return false
	}
	if !bytes.Equal(p.form(), b) {
		t.Fatalf("the plain form of % X: % X", b, p.form())
	}
	wantSame(t, v, p)
	return true
}

// wantSame: the value is the plain one, in all that is to be seen.
func wantSame(t *testing.T, v *Value, p *plain) {
	t.Helper()
	form := p.form()
	b, err := v.Bytes()
	if len(form) > 64 {
		if err != api.ErrWide || b != nil {
			t.Errorf("Bytes: % X, %d; want ErrWide", b, err)
		}
		b = v.body.form()
	} else if err != api.OK {
		t.Errorf("Bytes: %d", err)
	}
	if !bytes.Equal(b, form) {
		t.Errorf("Bytes: % X; want % X", b, form)
	}
	var elements []string
	if p.kind == Set {
		elements = p.elements()
	}
	wantElements(t, v, elements...)
	if on := p.kind == Flag && len(p.tags) > 0; v.Sum() != p.sum() || v.On() != on || string(v.Text()) != p.text {
		t.Errorf("% X: %d, %v, %q", b, v.Sum(), v.On(), v.Text())
	}
}

// TestP1907ShortBytes: all bytes up to three of which the first may tell a type: three of them are forms.
func TestP1907ShortBytes(t *testing.T) {
	all := [][]byte{{}}
	for first := range 6 {
		all = append(all, []byte{byte(first)})
		for second := range 256 {
			all = append(all, []byte{byte(first), byte(second)})
			for third := range 256 {
				all = append(all, []byte{byte(first), byte(second), byte(third)})
			}
		}
	}
	met := 0
	for _, b := range all {
		for _, kind := range kinds {
			if wantAsPlain(t, kind, b) {
				met++
			}
		}
	}
	if met != 3 {
		t.Errorf("%d forms", met)
	}
}

// TestP1907Spoilt: forms with a byte changed, left out, or put in.
func TestP1907Spoilt(t *testing.T) {
	met := 0
	for seed := range int64(120) {
		r := rand.New(rand.NewSource(seed))
		kind := kinds[seed%4]
		form := anyValue(r, kind).form()
		if !wantAsPlain(t, kind, form) {
			t.Errorf("% X is refused", form)
		}
		for at := range len(form) + 1 {
			for _, x := range []byte{0, 1, 2, 3, 4, 8, 9, 0x7F, 0x80, 0xFF, byte(r.Intn(256))} {
				changed := slices.Clone(form)
				if at < len(form) {
					changed[at] = x
				}
				for _, b := range [][]byte{changed, slices.Insert(slices.Clone(form), at, x)} {
					if wantAsPlain(t, kind, b) {
						met++
					}
				}
			}
			wantAsPlain(t, kind, form[:at])
			if at < len(form) {
				wantAsPlain(t, kind, slices.Delete(slices.Clone(form), at, at+1))
			}
		}
	}
	if met < 1000 {
		t.Errorf("only %d were forms still", met)
	}
}

// TestP1907AnyBytes: bytes of no form, many of them small numbers.
func TestP1907AnyBytes(t *testing.T) {
	r := rand.New(rand.NewSource(1))
	met := 0
	for range 200000 {
		kind := kinds[r.Intn(4)]
		b := make([]byte, r.Intn(20))
		for i := range b {
			b[i] = byte(r.Intn(3))
		}
		if len(b) > 0 && r.Intn(8) > 0 {
			b[0] = byte(kind)
		}
		if wantAsPlain(t, kind, b) {
			met++
		}
	}
	if met < 1000 {
		t.Errorf("only %d were forms", met)
	}
}

// TestP1908Resolve: dead ones are left out, dots, keys and contexts are not looked at, the first refusal counts.
func TestP1908Resolve(t *testing.T) {
	five, down, more := api.Write{Value: raw("01 01 05 00 00 00 00 00")}, api.Write{Value: raw("01 02 00 00 00 02 00 00")}, api.Write{Value: raw("01 01 07 00 00 01 00 00")}
	named := more
	named.Key, named.Dot, named.Ctx = strings.Repeat("k", 99), api.Dot{Node: -7, Count: -1}, []api.Span{{Node: 99, Base: -3}}
	dead := api.Write{Dead: true, Value: raw("02 00 00")}
	deadLong := api.Write{Dead: true, Value: text(99)}
	set, long, none := api.Write{Value: raw("02 00 00")}, api.Write{Value: text(65)}, api.Write{}
	for _, x := range []struct {
		l    []api.Write
		sum  int
		want api.Errno
	}{
		{nil, 0, api.OK}, {[]api.Write{five}, 5, api.OK}, {[]api.Write{five, five, five}, 5, api.OK}, {[]api.Write{five, down}, 3, api.OK},
		{[]api.Write{down, five, more}, 4, api.OK}, {[]api.Write{named, five, down}, 4, api.OK}, {[]api.Write{dead, five, deadLong}, 5, api.OK},
		{[]api.Write{dead}, 0, api.OK}, {[]api.Write{none}, 0, api.ErrType}, {[]api.Write{five, none, long}, 0, api.ErrType},
		{[]api.Write{set, long}, 0, api.ErrType}, {[]api.Write{five, dead, long, set}, 0, api.ErrLong},
	} {
		v, err := Resolve(Counter, x.l)
		if x.want != api.OK {
			wantNoValue(t, "Resolve", v, err, x.want)
		} else if err != api.OK || v.Sum() != x.sum {
			t.Errorf("Resolve(%v): %v, %d; want the sum %d", x.l, v, err, x.sum)
		}
	}
	v, err := Resolve(Set, []api.Write{{Value: raw("02 01 01 00 01 01 61 01 01 00")}, {Value: raw("02 01 01 00 00")}, {Value: raw("02 02 01 00 01 01 62 02 01 00")}})
	wantErr(t, "Resolve of sets", err, api.OK)
	wantBytes(t, v, "02 03 01 00 01 00 01 01 62 02 01 00")
}
