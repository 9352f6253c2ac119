package script

import (
	"fmt"
	"math"
	"math/rand"
	"strings"
	"testing"

	"rookery/api"
	"rookery/ring"
)

func wantAnswers(t *testing.T, l []api.Answer, want ...string) {
	t.Helper()
	text := ""
	for _, line := range want {
		text += line + "\n"
	}
	if got := PrintAnswers(l); got != text {
		t.Errorf("PrintAnswers(%+v): %s; want %s", l, short(got), short(text))
	}
}

// wantAnswer: of one answer, the lines behind its first.
func wantAnswer(t *testing.T, a api.Answer, want ...string) {
	t.Helper()
	wantAnswers(t, []api.Answer{a}, append([]string{fmt.Sprintf("1 %d", int(a.Err))}, want...)...)
}

func wr(node, count int, key, value string, ctx ...api.Span) api.Write {
	return api.Write{Dot: api.Dot{Node: node, Count: count}, Key: key, Value: []byte(value), Ctx: ctx}
}

func dead(node, count int, key string, ctx ...api.Span) api.Write {
	return api.Write{Dot: api.Dot{Node: node, Count: count}, Key: key, Dead: true, Ctx: ctx}
}

func up(s api.State) api.Answer { return api.Answer{Sight: api.Sight{Up: true, State: s}} }

func TestP1708Numbers(t *testing.T) {
	wantAnswers(t, nil)
	wantAnswers(t, []api.Answer{})
	wantAnswers(t, make([]api.Answer, 11), "1 0", "2 0", "3 0", "4 0", "5 0", "6 0", "7 0", "8 0", "9 0", "10 0", "11 0")
	wantAnswers(t, []api.Answer{{Err: api.ErrDown}, {}, {Err: api.ErrScript}}, "1 3", "2 0", "3 170")
	wantAnswer(t, api.Answer{Err: -1})
	wantAnswer(t, api.Answer{Err: math.MaxInt})
	wantAnswer(t, api.Answer{Call: 1}, "call 1")
	wantAnswer(t, api.Answer{Call: -1, Err: 4}, "call -1")
	wantAnswer(t, api.Answer{Node: 2}, "node 2")
	wantAnswer(t, api.Answer{Node: math.MinInt, Call: math.MaxInt}, "call 9223372036854775807", "node -9223372036854775808")
}

func TestP1708Done(t *testing.T) {
	w, x := wr(1, 1, "k", "v"), dead(2, 7, "a b", api.Span{Node: 0, Base: 3, Bits: 0xA2})
	wantAnswer(t, api.Answer{Done: []api.Done{{Call: 1, Writes: []api.Write{w}}}}, "done 1 0", "write 1 1 k value v -")
	wantAnswer(t, api.Answer{Done: []api.Done{{}, {Call: 3, Err: api.ErrGone}, {Call: -4, Err: -5}}}, "done 0 0", "done 3 111", "done -4 -5")
	wantAnswer(t, api.Answer{Done: []api.Done{{Call: 4, Writes: []api.Write{w, x}, Token: x.Ctx}, {Call: 5, Err: 1, Writes: []api.Write{x}}, {Call: 6, Token: []api.Span{{Node: 1, Base: 2}}}}},
		"done 4 0", "write 1 1 k value v -", "write 2 7 a%20b dead 0:3+A2", "token 0:3+A2", "done 5 1", "write 2 7 a%20b dead 0:3+A2", "done 6 0", "token 1:2")
	wantAnswer(t, api.Answer{Done: []api.Done{{Writes: []api.Write{}, Token: []api.Span{}}}}, "done 0 0")
}

func TestP1708Writes(t *testing.T) {
	odd := dead(-1, math.MinInt, "")
	odd.Value = []byte("not told")
	for want, w := range map[string]api.Write{
		"0 0 - value - -":                               {},
		"1 2 k value v -":                               wr(1, 2, "k", "v"),
		"1 2 %2D value %2D -":                           wr(1, 2, "-", "-"),
		"1 2 k dead -":                                  dead(1, 2, "k"),
		"-1 -9223372036854775808 - dead -":              odd,
		"7 1048576 %00%FF value %0A%20 0:1,1:2":         wr(7, 1048576, "\x00\xff", "\n ", api.Span{Base: 1}, api.Span{Node: 1, Base: 2}),
		"1 2 value value dead -":                        wr(1, 2, "value", "dead"),
		"1 2 k value " + strings.Repeat("v", 70) + " -": wr(1, 2, "k", strings.Repeat("v", 70)),
	} {
		wantAnswer(t, api.Answer{Done: []api.Done{{Writes: []api.Write{w}}}}, "done 0 0", "write "+want)
		wantAnswer(t, up(api.State{Keys: [][]api.Write{{w}}}), "up 0", "sibling "+want)
		wantAnswer(t, up(api.State{Hints: []api.Hint{{Owner: 3, Write: w}}}), "up 0", "hint 3 "+want)
	}
}

func TestP1708Sets(t *testing.T) {
	for want, s := range map[string][]api.Span{
		"-":                       nil,
		"0:0":                     {{}},
		"0:1":                     {{Base: 1}},
		"3:0+2":                   {{Node: 3, Bits: 2}},
		"3:10+A":                  {{Node: 3, Base: 10, Bits: 10}},
		"0:3+A2,1:0+2,4:5":        {{Base: 3, Bits: 0xA2}, {Node: 1, Bits: 2}, {Node: 4, Base: 5}},
		"1:1,1:1,0:2":             {{Node: 1, Base: 1}, {Node: 1, Base: 1}, {Base: 2}},
		"1:2+FEDCBA9876543210":    {{Node: 1, Base: 2, Bits: 0xFEDCBA9876543210}},
		"1:2+10,2:1+8":            {{Node: 1, Base: 2, Bits: 16}, {Node: 2, Base: 1, Bits: 8}},
		"-1:-2+FFFFFFFFFFFFFFFF":  {{Node: -1, Base: -2, Bits: math.MaxUint64}},
		"1:2+8000000000000000":    {{Node: 1, Base: 2, Bits: 1 << 63}},
		"9223372036854775807:0+1": {{Node: math.MaxInt, Bits: 1}},
	} {
		wantAnswer(t, up(api.State{Clocks: []api.Clock{{Range: 2, Set: s}, {Range: -1}}}), "up 0", "clock 2 "+want, "clock -1 -")
		wantAnswer(t, api.Answer{Done: []api.Done{{Writes: []api.Write{wr(1, 1, "k", "v", s...)}}}}, "done 0 0", "write 1 1 k value v "+want)
		if len(s) > 0 {
			wantAnswer(t, api.Answer{Done: []api.Done{{Token: s}}}, "done 0 0", "token "+want)
		}
	}
}

func TestP1708Sight(t *testing.T) {
	s := api.Sight{
		Up: true,
		State: api.State{
			Gen:    2,
			Keys:   [][]api.Write{{wr(1, 1, "a", "v"), wr(1, 2, "a", "w")}, {}, {dead(0, 1, "b")}},
			Clocks: []api.Clock{{Range: 0}, {Range: 3, Set: []api.Span{{Node: 1, Base: 2}}}},
			Hints:  []api.Hint{{Owner: 1, Write: wr(2, 1, "h", "v")}, {Owner: 2, Write: dead(2, 2, "h")}},
		},
		Timers: []api.Timer{{Due: 20, Number: 1, Kind: 2, Call: 3}, {Due: -1, Number: 0, Kind: -7}},
		Calls:  []int{3, 5, -6},
	}
	wantAnswer(t, api.Answer{Sight: s}, "up 2", "sibling 1 1 a value v -", "sibling 1 2 a value w -", "sibling 0 1 b dead -", "clock 0 -", "clock 3 1:2",
		"hint 1 2 1 h value v -", "hint 2 2 2 h dead -", "timer 20 1 2 3", "timer -1 0 -7 0", "calls 3 5 -6")
	s.Up = false
	wantAnswer(t, api.Answer{Sight: s})
	wantAnswer(t, up(api.State{}), "up 0")
	wantAnswer(t, up(api.State{Gen: -3}), "up -3")
	wantAnswer(t, api.Answer{Sight: api.Sight{Up: true, Calls: []int{0}}}, "up 0", "calls 0")
	wantAnswer(t, api.Answer{Sight: api.Sight{Up: true, Calls: []int{}, Timers: []api.Timer{}}}, "up 0")
}

func TestP1708TheRest(t *testing.T) {
	wantAnswer(t, api.Answer{Bag: []api.Letter{{From: 1, To: 2, Data: []byte("a\x00")}, {}, {From: -1, To: 99, Data: []byte("-")}}}, "letter 1 2 a%00", "letter 0 0 -", "letter -1 99 %2D")
	wantAnswer(t, api.Answer{Image: []byte("a")}, "image 1 3035041849")
	wantAnswer(t, api.Answer{Image: []byte{255, 0}}, "image 2 2815855815")
	wantAnswer(t, api.Answer{Image: []byte{}})
	wantAnswer(t, api.Answer{Image: make([]byte, 4096*512)}, fmt.Sprintf("image 2097152 %d", ring.Hash(make([]byte, 4096*512))))
	wantAnswer(t, api.Answer{Heads: []api.Dot{{Node: 1, Count: 2}, {}, {Node: -1, Count: math.MinInt}}}, "head 1 2", "head 0 0", "head -1 -9223372036854775808")
}

// TestP1708Order: all of it in one answer, in the order of the chapter, and the next answer behind it.
func TestP1708Order(t *testing.T) {
	a := api.Answer{
		Err: 7, Call: 1, Node: 2, Done: []api.Done{{Call: 3, Token: []api.Span{{Node: 1, Base: 1}}, Writes: []api.Write{wr(1, 1, "k", "")}}, {Call: 4}},
		Sight: api.Sight{Up: true, Calls: []int{9}}, Bag: []api.Letter{{From: 1}}, Image: []byte("a"), Heads: []api.Dot{{Node: 5, Count: 6}},
	}
	told := []string{"call 1", "node 2", "done 3 0", "write 1 1 k value - -", "token 1:1", "done 4 0", "up 0", "calls 9", "letter 1 0 -", "image 1 3035041849", "head 5 6"}
	wantAnswer(t, a, told...)
	wantAnswers(t, []api.Answer{a, {}, a}, append(append(append([]string{"1 7"}, told...), "2 0", "3 7"), told...)...)
}

func plainSet(s []api.Span) string {
	var l []string
	for _, x := range s {
		if x.Bits == 0 {
			l = append(l, fmt.Sprintf("%d:%d", x.Node, x.Base))
		} else {
			l = append(l, fmt.Sprintf("%d:%d+%X", x.Node, x.Base, x.Bits))
		}
	}
	if len(l) == 0 {
		return "-"
	}
	return strings.Join(l, ",")
}

func plainWrite(w api.Write) string {
	what := "value " + spelt(w.Value)
	if w.Dead {
		what = "dead"
	}
	return fmt.Sprintf("%d %d %s %s %s", w.Dot.Node, w.Dot.Count, spelt([]byte(w.Key)), what, plainSet(w.Ctx))
}

func plainSight(s api.Sight) []string {
	l := []string{fmt.Sprintf("up %d", s.State.Gen)}
	for _, key := range s.State.Keys {
		for _, w := range key {
			l = append(l, "sibling "+plainWrite(w))
		}
	}
	for _, c := range s.State.Clocks {
		l = append(l, fmt.Sprintf("clock %d %s", c.Range, plainSet(c.Set)))
	}
	for _, h := range s.State.Hints {
		l = append(l, fmt.Sprintf("hint %d %s", h.Owner, plainWrite(h.Write)))
	}
	for _, x := range s.Timers {
		l = append(l, fmt.Sprintf("timer %d %d %d %d", x.Due, x.Number, x.Kind, x.Call))
	}
	if len(s.Calls) > 0 {
		l = append(l, "calls "+strings.Trim(fmt.Sprint(s.Calls), "[]"))
	}
	return l
}

func plainAnswer(a api.Answer) []string {
	var l []string
	if a.Call != 0 {
		l = append(l, fmt.Sprintf("call %d", a.Call))
	}
	if a.Node != 0 {
		l = append(l, fmt.Sprintf("node %d", a.Node))
	}
	for _, d := range a.Done {
		l = append(l, fmt.Sprintf("done %d %d", d.Call, int(d.Err)))
		for _, w := range d.Writes {
			l = append(l, "write "+plainWrite(w))
		}
		if len(d.Token) > 0 {
			l = append(l, "token "+plainSet(d.Token))
		}
	}
	if a.Sight.Up {
		l = append(l, plainSight(a.Sight)...)
	}
	for _, x := range a.Bag {
		l = append(l, fmt.Sprintf("letter %d %d %s", x.From, x.To, spelt(x.Data)))
	}
	if len(a.Image) > 0 {
		l = append(l, fmt.Sprintf("image %d %d", len(a.Image), ring.Hash(a.Image)))
	}
	for _, d := range a.Heads {
		l = append(l, fmt.Sprintf("head %d %d", d.Node, d.Count))
	}
	return l
}

// some: up to three things, mostly fewer.
func some[T any](r *rand.Rand, one func() T) []T {
	var l []T
	for range max(0, r.Intn(6)-2) {
		l = append(l, one())
	}
	return l
}

func randomAnswer(r *rand.Rand) api.Answer {
	n := func() int { return randomNumber(r) }
	b := func() []byte { return randomBytes(r) }
	dot := func() api.Dot { return api.Dot{Node: n(), Count: n()} }
	set := func() []api.Span {
		return some(r, func() api.Span { return api.Span{Node: n(), Base: n(), Bits: uint64(n())} })
	}
	write := func() api.Write {
		return api.Write{Dot: dot(), Key: string(b()), Dead: r.Intn(3) == 0, Value: b(), Ctx: set()}
	}
	writes := func() []api.Write { return some(r, write) }
	return api.Answer{
		Err: api.Errno(n()), Call: n(), Node: n(), Image: b(), Heads: some(r, dot),
		Done: some(r, func() api.Done { return api.Done{Call: n(), Err: api.Errno(n()), Writes: writes(), Token: set()} }),
		Bag:  some(r, func() api.Letter { return api.Letter{From: n(), To: n(), Data: b()} }),
		Sight: api.Sight{
			Up: r.Intn(2) == 0, Calls: some(r, n), Timers: some(r, func() api.Timer { return api.Timer{Due: n(), Number: n(), Kind: n(), Call: n()} }),
			State: api.State{Gen: n(), Keys: some(r, writes), Clocks: some(r, func() api.Clock { return api.Clock{Range: n(), Set: set()} }), Hints: some(r, func() api.Hint { return api.Hint{Owner: n(), Write: write()} })},
		},
	}
}

// TestModelAnswers: random answers, of any numbers and bytes.
func TestModelAnswers(t *testing.T) {
	for seed := range int64(3000) {
		r := rand.New(rand.NewSource(seed))
		l := some(r, func() api.Answer { return randomAnswer(r) })
		var want []string
		for i, a := range l {
			want = append(append(want, fmt.Sprintf("%d %d", i+1, int(a.Err))), plainAnswer(a)...)
		}
		if wantAnswers(t, l, want...); t.Failed() {
			t.Fatalf("seed %d", seed)
		}
	}
}
