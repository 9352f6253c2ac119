package session

import (
	"fmt"
	"slices"
	"testing"

	"rookery/api"
)

// four: the config of the chapter's examples: the orders of the ranges 0 and 1 are 1 3 2 0 and 2 3 0 1; the key c lies in 1, g in 0.
func four() api.Config {
	return api.Config{Nodes: 4, Prefer: 2, Ranges: 2, Siblings: 2, Gap: 4, Count: 100, Keys: 2, Hints: 1, Bag: 50}
}

func fresh(t *testing.T, c api.Config, first int) *Session {
	t.Helper()
	s, err := New(c, first)
	if s == nil || err != api.OK {
		t.Fatalf("New(%v, %d): %v, %d; want a session", c, first, s != nil, err)
	}
	return s
}

func sp(node, base int) api.Span { return api.Span{Node: node, Base: base} }

// far: a span with counts beyond its base.
func far(node, base int, bits uint64) api.Span { return api.Span{Node: node, Base: base, Bits: bits} }

func spans(l ...api.Span) []api.Span { return l }

func dot(node, count int) api.Dot { return api.Dot{Node: node, Count: count} }

// wr: a write with the value v.
func wr(key string, node, count int, ctx ...api.Span) api.Write {
	return api.Write{Dot: dot(node, count), Key: key, Value: []byte("v"), Ctx: ctx}
}

func list(l ...api.Write) []api.Write { return l }

func wantNext(t *testing.T, s *Session, key string, want int) {
	t.Helper()
	if got, err := s.Next(key); got != want || err != api.OK {
		t.Errorf("Next(%q): %d, %d; want %d", key, got, err, want)
	}
}

func wantErr(t *testing.T, what string, got, want api.Errno) {
	t.Helper()
	if got != want {
		t.Errorf("%s: %d; want %d", what, got, want)
	}
}

// wantSeen: the token and the heads of a key.
func wantSeen(t *testing.T, s *Session, key string, token int, heads ...api.Dot) {
	t.Helper()
	if got := s.Heads(key); s.Token(key) != token || !slices.Equal(got, heads) {
		t.Errorf("of %q: call %d, heads %v; want %d, %v", key, s.Token(key), got, token, heads)
	}
}

// everything: all that is to be seen of a session, as far as these keys tell.
func everything(s *Session, keys ...string) string {
	text := ""
	for _, key := range keys {
		n, err := s.Next(key)
		text += fmt.Sprintf("%q: %d, %d, call %d, heads %v; ", key, n, err, s.Token(key), s.Heads(key))
	}
	return text
}
