package coord

import (
	"fmt"
	"slices"
	"strings"
	"testing"

	"rookery/api"
)

// The lists of the chapter's examples: functions, so that no test shares them with another.
func prefer() []int   { return []int{0, 2, 1} }
func standins() []int { return []int{3, 4} }

func fresh(t *testing.T, me, gap int) *Coord {
	t.Helper()
	c, err := New(me, gap)
	if c == nil || err != api.OK {
		t.Fatalf("New(%d, %d): %v, %d", me, gap, c != nil, err)
	}
	return c
}

// sp: a span, with the counts beyond its base.
func sp(node, base int, beyond ...int) api.Span {
	s := api.Span{Node: node, Base: base}
	for _, c := range beyond {
		s.Bits |= 1 << (c - base - 1)
	}
	return s
}

func spans(s ...api.Span) []api.Span { return s }

// wr: a write of the key k.
func wr(node, count int, ctx ...api.Span) api.Write {
	return api.Write{Dot: api.Dot{Node: node, Count: count}, Key: "k", Ctx: ctx}
}

func of(key string, w api.Write) api.Write {
	w.Key = key
	return w
}

func with(value string, w api.Write) api.Write {
	w.Value = []byte(value)
	return w
}

func list(l ...api.Write) []api.Write { return l }

// stored, tell and found: the three answers; the key is k.
func stored(call, from, owner int) api.Msg {
	return api.Msg{Kind: api.MsgStored, From: from, Call: call, Owner: owner}
}

func tell(call, from int, set []api.Span, l ...api.Write) api.Msg {
	return api.Msg{Kind: api.MsgTell, From: from, Call: call, Key: "k", Set: set, Writes: l}
}

func found(call, from, owner int, l ...api.Write) api.Msg {
	return api.Msg{Kind: api.MsgFound, From: from, Call: call, Owner: owner, Key: "k", Writes: l}
}

func spanText(s []api.Span) string {
	var out []string
	for _, x := range s {
		out = append(out, fmt.Sprintf("%d:%d+%b", x.Node, x.Base, x.Bits))
	}
	return strings.Join(out, " ")
}

func writeText(l []api.Write) string {
	var out []string
	for _, w := range l {
		out = append(out, fmt.Sprintf("%d.%d{%s}%q%q%v", w.Dot.Node, w.Dot.Count, spanText(w.Ctx), w.Key, w.Value, w.Dead))
	}
	return strings.Join(out, " ")
}

func msgText(m api.Msg) string {
	return fmt.Sprintf("kind %d from %d to %d call %d range %d owner %d key %q dot %v set [%s] writes [%s]",
		m.Kind, m.From, m.To, m.Call, m.Range, m.Owner, m.Key, m.Dot, spanText(m.Set), writeText(m.Writes))
}

// text: all that is in the acts, in which nil and an empty list are the same.
func text(a api.Acts) string {
	var out []string
	for _, m := range a.Send {
		out = append(out, msgText(m))
	}
	for _, x := range a.Arm {
		out = append(out, fmt.Sprintf("arm %+v", x))
	}
	for _, d := range a.Done {
		out = append(out, fmt.Sprintf("done %d %d [%s] token [%s]", d.Call, d.Err, writeText(d.Writes), spanText(d.Token)))
	}
	return strings.Join(out, "\n")
}

// join: the acts of several parts.
func join(parts ...api.Acts) api.Acts {
	var out api.Acts
	for _, p := range parts {
		out.Send = append(out.Send, p.Send...)
		out.Arm = append(out.Arm, p.Arm...)
		out.Done = append(out.Done, p.Done...)
	}
	return out
}

func send(m ...api.Msg) api.Acts { return api.Acts{Send: m} }

// arm: a call's timer.
func arm(call int) api.Acts {
	return api.Acts{Arm: []api.Timer{{Due: 20, Kind: 1, Call: call}}}
}

func done(call int, token []api.Span, l ...api.Write) api.Acts {
	return api.Acts{Done: []api.Done{{Call: call, Writes: l, Token: token}}}
}

func failed(call int) api.Acts {
	return api.Acts{Done: []api.Done{{Call: call, Err: api.ErrQuorum}}}
}

// The messages that a coordinator of node 0 sends.
func store(call, to int, w api.Write) api.Msg {
	return api.Msg{Kind: api.MsgStore, To: to, Call: call, Writes: list(w)}
}

func keep(call, to, owner int, w api.Write) api.Msg {
	return api.Msg{Kind: api.MsgKeep, To: to, Call: call, Owner: owner, Writes: list(w)}
}

func ask(call, to int, key string) api.Msg {
	return api.Msg{Kind: api.MsgAsk, To: to, Call: call, Key: key}
}

func seek(call, to, owner int, key string) api.Msg {
	return api.Msg{Kind: api.MsgSeek, To: to, Call: call, Owner: owner, Key: key}
}

func wantActs(t *testing.T, what string, got api.Acts, err api.Errno, want ...api.Acts) {
	t.Helper()
	if err != api.OK {
		t.Errorf("%s: error %d", what, err)
	}
	if g, w := text(got), text(join(want...)); g != w {
		t.Errorf("%s:\n%s\nwant:\n%s", what, g, w)
	}
}

// wantRefused: the error, and no acts.
func wantRefused(t *testing.T, what string, got api.Acts, err, want api.Errno) {
	t.Helper()
	if err != want || text(got) != "" {
		t.Errorf("%s: %d, acts %q; want %d", what, err, text(got), want)
	}
}

func on(t *testing.T, c *Coord, m api.Msg, want ...api.Acts) {
	t.Helper()
	got, err := c.On(m)
	wantActs(t, "On "+msgText(m), got, err, want...)
}

func at(t *testing.T, c *Coord, call int, want ...api.Acts) {
	t.Helper()
	got, err := c.Time(call)
	wantActs(t, fmt.Sprintf("Time(%d)", call), got, err, want...)
}

func wantCalls(t *testing.T, c *Coord, want ...int) {
	t.Helper()
	if got := c.Calls(); !slices.Equal(got, want) {
		t.Errorf("Calls: %v; want %v", got, want)
	}
}

// wantOpen: is the number in use? (A Get that is refused changes nothing; one that is not ends at once.)
func wantOpen(t *testing.T, c *Coord, call int, want bool) {
	t.Helper()
	_, err := c.Get(call, "probe", []int{c.me}, nil, 1, false, nil, nil)
	if (err == api.ErrCall) != want {
		t.Errorf("call %d: another of its number: %d; want it open: %v", call, err, want)
	}
}

// put and get: calls of the chapter's examples.
func put(t *testing.T, c *Coord, call int, w api.Write, quorum int, sloppy bool, want ...api.Acts) {
	t.Helper()
	got, err := c.Put(call, w, prefer(), standins(), quorum, sloppy)
	wantActs(t, fmt.Sprintf("Put %d", call), got, err, want...)
}

func get(t *testing.T, c *Coord, call, quorum int, sloppy bool, own []api.Write, clock []api.Span, want ...api.Acts) {
	t.Helper()
	got, err := c.Get(call, "k", prefer(), standins(), quorum, sloppy, own, clock)
	wantActs(t, fmt.Sprintf("Get %d", call), got, err, want...)
}

// stores and asks: what a call of the chapter's examples sends first.
func stores(call int, w api.Write) api.Acts { return send(store(call, 2, w), store(call, 1, w)) }

func asks(call int) api.Acts { return send(ask(call, 2, "k"), ask(call, 1, "k")) }
