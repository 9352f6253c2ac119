package coord

import (
	"math/rand"
	"slices"
	"testing"

	"rookery/api"
	"rookery/dotset"
	"rookery/sibs"
)

// model is the chapter's words once more, as plainly as can be: calls that keep all messages they were ever handed and that fitted, and reckon everything from these.
type model struct {
	me, gap int
	open    []*modelCall
}

type modelCall struct {
	number, quorum   int
	prefer, standins []int
	sloppy, put      bool
	w                api.Write
	key              string
	own              []api.Write
	clock            []api.Span
	came             []api.Msg // answers that fitted
	sent             []api.Msg // to stand-ins
	times            int
	answered         bool
}

func (m *model) find(number int) *modelCall {
	for _, k := range m.open {
		if k.number == number {
			return k
		}
	}
	return nil
}

func (m *model) end(k *modelCall) {
	m.open = slices.DeleteFunc(m.open, func(o *modelCall) bool { return o == k })
}

// ownerOf: for whom an answer is.
func ownerOf(a api.Msg) int {
	if a.Kind == api.MsgTell {
		return a.From
	}
	return a.Owner
}

// answerFor: the answer that made a node an owner.
func (k *modelCall) answerFor(node int) *api.Msg {
	for i := range k.came {
		if ownerOf(k.came[i]) == node {
			return &k.came[i]
		}
	}
	return nil
}

func (m *model) silent(k *modelCall) []int {
	var out []int
	for _, n := range k.prefer {
		if n != m.me && k.answerFor(n) == nil {
			out = append(out, n)
		}
	}
	return out
}

func (m *model) refusal(number int, prefer, standins []int, quorum int) api.Errno {
	all := slices.Concat(prefer, standins)
	for i, n := range all {
		if n < 0 || n > 7 || slices.Contains(all[:i], n) {
			return api.ErrArg
		}
	}
	switch {
	case number < 1 || len(prefer) == 0:
		return api.ErrArg
	case !slices.Contains(prefer, m.me):
		return api.ErrMine
	case quorum < 1 || quorum > len(prefer):
		return api.ErrArg
	case m.find(number) != nil:
		return api.ErrCall
	}
	return api.OK
}

func (m *model) begin(k *modelCall) (api.Acts, api.Errno) {
	if err := m.refusal(k.number, k.prefer, k.standins, k.quorum); err != api.OK {
		return api.Acts{}, err
	}
	m.open = append(m.open, k)
	var first api.Acts
	for _, n := range k.prefer {
		if n == m.me {
			continue
		}
		if k.put {
			first.Send = append(first.Send, api.Msg{Kind: api.MsgStore, From: m.me, To: n, Call: k.number, Writes: list(k.w)})
		} else {
			first.Send = append(first.Send, api.Msg{Kind: api.MsgAsk, From: m.me, To: n, Call: k.number, Key: k.key})
		}
	}
	rest := m.settle(k)
	if m.find(k.number) != nil {
		rest = join(rest, arm(k.number))
	}
	return join(first, rest), api.OK
}

// settle: is the quorum there, is nobody silent any more?
func (m *model) settle(k *modelCall) api.Acts {
	var acts api.Acts
	silent := m.silent(k)
	if !k.answered && len(k.prefer)-len(silent) >= k.quorum {
		k.answered = true
		if k.put {
			acts = done(k.number, nil, k.w)
		} else {
			acts = m.answer(k)
			m.end(k)
		}
	}
	if len(silent) == 0 {
		m.end(k)
	}
	return acts
}

func (k *modelCall) mine(l []api.Write) []api.Write {
	return slices.DeleteFunc(slices.Clone(l), func(w api.Write) bool { return w.Key != k.key })
}

func hasDot(l []api.Write, w api.Write) bool {
	return slices.ContainsFunc(l, func(t api.Write) bool { return t.Dot == w.Dot })
}

func lacking(l, out []api.Write) []api.Write {
	return slices.DeleteFunc(slices.Clone(l), func(w api.Write) bool { return hasDot(out, w) })
}

// answer: P1107, step by step.
func (m *model) answer(k *modelCall) api.Acts {
	var told, kept [][]api.Write
	var sets [][]api.Span
	var tellers []int
	for _, n := range k.prefer {
		a := k.answerFor(n)
		switch {
		case n == m.me:
			told, sets = append(told, k.mine(k.own)), append(sets, dotset.Bases(k.clock))
			tellers = append(tellers, n)
		case a != nil && a.Kind == api.MsgTell:
			told, sets = append(told, k.mine(a.Writes)), append(sets, a.Set)
			tellers = append(tellers, n)
		case a != nil:
			kept = append(kept, k.mine(a.Writes))
		}
	}
	known, out := sibs.Token(told, sets, m.gap)
	token, more := sibs.Token(kept, [][]api.Span{known}, m.gap)
	var all [][]api.Write
	for _, l := range told {
		all = append(all, lacking(l, out))
	}
	for _, l := range kept {
		all = append(all, lacking(l, more))
	}
	writes := sibs.Gather(all...)
	acts := done(k.number, token, writes...)
	for i, n := range tellers {
		for _, w := range writes {
			if n != m.me && !hasDot(told[i], w) {
				acts.Send = append(acts.Send, api.Msg{Kind: api.MsgStore, From: m.me, To: n, Writes: list(w)})
			}
		}
	}
	return acts
}

// fits: P1105's rules.
func (m *model) fits(k *modelCall, a api.Msg) bool {
	if !slices.Contains(m.silent(k), ownerOf(a)) {
		return false
	}
	stands := func(kind int) bool {
		return slices.ContainsFunc(k.sent, func(s api.Msg) bool { return s.Kind == kind && s.To == a.From && s.Owner == a.Owner })
	}
	switch a.Kind {
	case api.MsgStored:
		return k.put && (a.From == a.Owner || stands(api.MsgKeep))
	case api.MsgTell:
		return !k.put && a.Key == k.key
	}
	return !k.put && a.Key == k.key && stands(api.MsgSeek)
}

func (m *model) on(a api.Msg) (api.Acts, api.Errno) {
	if a.Kind != api.MsgStored && a.Kind != api.MsgTell && a.Kind != api.MsgFound {
		return api.Acts{}, api.ErrMsg
	}
	k := m.find(a.Call)
	if k == nil || !m.fits(k, a) {
		return api.Acts{}, api.OK
	}
	k.came = append(k.came, a)
	return m.settle(k), api.OK
}

func (m *model) time(number int) (api.Acts, api.Errno) {
	k := m.find(number)
	if k == nil {
		return api.Acts{}, api.OK
	}
	k.times++
	if !k.sloppy || k.times == 2 {
		m.end(k)
		if k.answered {
			return api.Acts{}, api.OK
		}
		return failed(number), api.OK
	}
	for i, n := range m.silent(k) {
		if i == len(k.standins) {
			break
		}
		s := api.Msg{Kind: api.MsgSeek, From: m.me, To: k.standins[i], Call: number, Owner: n, Key: k.key}
		if k.put {
			s.Kind, s.Key, s.Writes = api.MsgKeep, "", list(k.w)
		}
		k.sent = append(k.sent, s)
	}
	return join(send(k.sent...), arm(number)), api.OK
}

func (m *model) calls() []int {
	var out []int
	for _, k := range m.open {
		if !k.answered {
			out = append(out, k.number)
		}
	}
	slices.Sort(out)
	return out
}

// chance makes up arguments: mostly such that something comes of them.
type chance struct{ *rand.Rand }

func (r chance) oneIn(n int) bool { return r.Intn(n) == 0 }

func (r chance) key() string { return []string{"k", "k", "k", "k", "l", ""}[r.Intn(6)] }

func (r chance) spans() []api.Span {
	var out []api.Span
	for n := range 4 {
		if r.oneIn(3) {
			out = append(out, api.Span{Node: n, Base: 1 + r.Intn(5), Bits: uint64(r.Intn(3) * 2)})
		}
	}
	if len(out) > 0 && r.oneIn(12) {
		out[0].Bits |= 1
	}
	return out
}

func (r chance) write() api.Write {
	w := api.Write{Dot: api.Dot{Node: r.Intn(4), Count: 1 + r.Intn(8)}, Key: r.key(), Ctx: r.spans(), Value: []byte{byte(r.Intn(256))}}
	if r.oneIn(30) {
		w.Dot.Node = 8 - 9*r.Intn(2)
	}
	return w
}

func (r chance) writes() []api.Write {
	var out []api.Write
	for range r.Intn(4) {
		out = append(out, r.write())
	}
	return out
}

// nodes: prefer and standins, of all nodes in any order, me among the preferred ones.
func (r chance) nodes(me int) ([]int, []int) {
	all := r.Perm(8)
	p := 1 + r.Intn(5)
	if i := slices.Index(all, me); i >= p && !r.oneIn(20) {
		j := r.Intn(p)
		all[i], all[j] = all[j], all[i]
	}
	s := all[p : p+r.Intn(9-p)]
	if r.oneIn(20) && len(s) > 0 {
		s[0] = []int{-1, 8, me, all[0]}[r.Intn(4)]
	}
	return slices.Clone(all[:p]), slices.Clone(s)
}

// answerTo: a message, that often is one to something that the model waits for.
func (r chance) answerTo(m *model) api.Msg {
	a := api.Msg{Kind: []int{2, 5, 7}[r.Intn(3)], From: r.Intn(9) - 1, To: r.Intn(9), Call: r.Intn(6), Owner: r.Intn(9) - 1, Key: r.key(), Set: r.spans(), Writes: r.writes()}
	if r.oneIn(20) {
		a.Kind = r.Intn(14)
	}
	if len(m.open) == 0 || r.oneIn(5) {
		return a
	}
	k := m.open[r.Intn(len(m.open))]
	a.Call, a.Owner, a.Key = k.number, k.prefer[r.Intn(len(k.prefer))], k.key
	a.From = a.Owner
	if k.put {
		a.Kind = api.MsgStored
	} else {
		a.Kind = api.MsgTell
	}
	if len(k.sent) > 0 && !r.oneIn(3) {
		s := k.sent[r.Intn(len(k.sent))]
		a.From, a.Owner = s.To, s.Owner
		if !k.put {
			a.Kind = api.MsgFound
		}
	}
	return a
}

// play does one step with both.
func play(r chance, c *Coord, m *model) (got, want api.Acts, err, refused api.Errno) {
	number := r.Intn(6)
	switch r.Intn(10) {
	case 0, 1, 2:
		k := modelCall{number: number, quorum: r.Intn(7) - 1, sloppy: !r.oneIn(3), put: r.oneIn(2)}
		k.prefer, k.standins = r.nodes(m.me)
		k.w, k.own, k.clock = r.write(), r.writes(), r.spans()
		if k.put {
			got, err = c.Put(number, k.w, k.prefer, k.standins, k.quorum, k.sloppy)
		} else {
			k.key = r.key()
			got, err = c.Get(number, k.key, k.prefer, k.standins, k.quorum, k.sloppy, k.own, k.clock)
		}
		want, refused = m.begin(&k)
	case 3, 4:
		got, err = c.Time(number)
		want, refused = m.time(number)
	default:
		a := r.answerTo(m)
		got, err = c.On(a)
		want, refused = m.on(a)
	}
	return got, want, err, refused
}

// TestAgainstModel: P1102 to P1109 in any order of calls.
func TestAgainstModel(t *testing.T) {
	met := map[string]int{}
	for seed := range int64(200) {
		r := chance{rand.New(rand.NewSource(seed))}
		m := &model{me: r.Intn(8), gap: 1 + r.Intn(6)}
		c := fresh(t, m.me, m.gap)
		for step := range 1000 {
			got, want, err, refused := play(r, c, m)
			if err != refused || text(got) != text(want) {
				t.Fatalf("seed %d, step %d: %d\n%s\nwant %d\n%s", seed, step, err, text(got), refused, text(want))
			}
			if !slices.Equal(c.Calls(), m.calls()) {
				t.Fatalf("seed %d, step %d: Calls %v; want %v", seed, step, c.Calls(), m.calls())
			}
			count(met, got)
		}
	}
	for _, what := range []string{"put", "get", "quorum", "repair", "keep", "seek"} {
		if met[what] < 1000 {
			t.Errorf("only %d times %s", met[what], what)
		}
	}
}

// count: how often the sorts of acts came, so that the chances are not idle.
func count(met map[string]int, a api.Acts) {
	for _, d := range a.Done {
		switch {
		case d.Err == api.ErrQuorum:
			met["quorum"]++
		case len(d.Token) > 0:
			met["get"]++
		case len(d.Writes) == 1:
			met["put"]++
		}
	}
	for _, m := range a.Send {
		switch {
		case m.Call == 0:
			met["repair"]++
		case m.Kind == api.MsgKeep:
			met["keep"]++
		case m.Kind == api.MsgSeek:
			met["seek"]++
		}
	}
}
