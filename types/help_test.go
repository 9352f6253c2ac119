package types

import (
	"bytes"
	"encoding/hex"
	"slices"
	"strings"
	"testing"

	"rookery/api"
)

var kinds = []int{Counter, Set, Flag, Register}

// raw: bytes from hexadecimal, with blanks where one likes them.
func raw(text string) []byte {
	b, err := hex.DecodeString(strings.ReplaceAll(text, " ", ""))
	if err != nil {
		panic(text)
	}
	return b
}

func fresh(t *testing.T, kind int) *Value {
	t.Helper()
	v, err := New(kind)
	if v == nil || err != api.OK {
		t.Fatalf("New(%d): %d", kind, err)
	}
	return v
}

// of: the value whose bytes these are; the first one is its type.
func of(t *testing.T, text string) *Value {
	t.Helper()
	b := raw(text)
	v, err := Read(int(b[0]), b)
	if v == nil || err != api.OK {
		t.Fatalf("Read(%s): %d", text, err)
	}
	return v
}

func wantErr(t *testing.T, what string, got, want api.Errno) {
	t.Helper()
	if got != want {
		t.Errorf("%s: %d; want %d", what, got, want)
	}
}

func wantBytes(t *testing.T, v *Value, want string) {
	t.Helper()
	if b, err := v.Bytes(); err != api.OK || !bytes.Equal(b, raw(want)) {
		t.Errorf("Bytes: % X, %d; want %s", b, err, want)
	}
}

func wantNoValue(t *testing.T, what string, v *Value, err, want api.Errno) {
	t.Helper()
	if v != nil || err != want {
		t.Errorf("%s: %v, %d; want no value, and %d", what, v, err, want)
	}
}

func wantElements(t *testing.T, v *Value, want ...string) {
	t.Helper()
	var got []string
	for _, e := range v.Elements() {
		got = append(got, string(e))
	}
	if !slices.Equal(got, want) {
		t.Errorf("Elements: %q; want %q", got, want)
	}
}

// wantRefused: the call answers this, and the value stays as it is.
func wantRefused(t *testing.T, what string, v *Value, call func() api.Errno, want api.Errno) {
	t.Helper()
	was := v.body.form()
	wantErr(t, what, call(), want)
	if now := v.body.form(); !bytes.Equal(now, was) {
		t.Errorf("%s is refused, and changes the value to % X; it was % X", what, now, was)
	}
}

func wantMerged(t *testing.T, mine, theirs, want string) {
	t.Helper()
	v, o := of(t, mine), of(t, theirs)
	wantErr(t, "Merge", v.Merge(o), api.OK)
	if b, err := v.Bytes(); err != api.OK || !bytes.Equal(b, raw(want)) {
		t.Errorf("%s and %s: % X, %d; want %s", mine, theirs, b, err, want)
	}
	wantBytes(t, o, theirs)
}

// wantBoth: merged the one way and the other.
func wantBoth(t *testing.T, one, another, want string) {
	t.Helper()
	wantMerged(t, one, another, want)
	wantMerged(t, another, one, want)
}

func text(n int) []byte { return bytes.Repeat([]byte{'x'}, n) }
