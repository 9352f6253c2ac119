package cluster

import (
	"fmt"
	"slices"
	"strings"
	"testing"

	"rookery/api"
	"rookery/disk"
	"rookery/ring"
	"rookery/store"
	"rookery/wire"
)

// three: the config of the chapter's examples: the range 0 prefers 1 and 2 (p and q), 0 stands in (s).
func three() api.Config {
	return api.Config{Nodes: 3, Prefer: 2, Ranges: 1, Siblings: 2, Gap: 4, Count: 100, Keys: 2, Hints: 2, Bag: 50}
}

const (
	atP = 1
	atQ = 2
	atS = 0
)

// five: the orders of the ranges 0 to 3 are 1 3 2 0 4, 2 4 3 0 1, 2 0 4 1 3, 1 3 2 0 4. The keys g h n lie in 0, a d k in 1, p q in 2, b c f in 3.
func five() api.Config {
	return api.Config{Nodes: 5, Prefer: 3, Ranges: 4, Siblings: 3, Gap: 6, Count: 1000, Keys: 6, Hints: 4, Bag: 50}
}

// with: a config with one thing turned.
func with(c api.Config, turn func(c *api.Config)) api.Config {
	turn(&c)
	return c
}

// preferred: the nodes that a key's range prefers, in its order.
func preferred(c api.Config, key string) []int {
	circle, _ := ring.New(c.Nodes, c.Ranges)
	l, _ := circle.Preferred(circle.Range(key), c.Prefer)
	return l
}

// play: a cluster that is looked at.
type play struct {
	t *testing.T
	*Cluster
}

func fresh(t *testing.T, c api.Config) *play {
	t.Helper()
	all, err := New(c)
	if all == nil || err != api.OK {
		t.Fatalf("New(%v): %v, %d; want a cluster", c, all != nil, err)
	}
	return &play{t: t, Cluster: all}
}

func putting(node int, key, value string, quorum int) api.Step {
	return api.Step{Kind: api.StepPut, Node: node, Key: key, Value: []byte(value), Quorum: quorum}
}

// behind: the Put carries a call's token.
func behind(s api.Step, call int) api.Step {
	s.From = call
	return s
}

func sloppily(s api.Step) api.Step {
	s.Sloppy = true
	return s
}

func dying(s api.Step) api.Step {
	s.Dead, s.Value = true, nil
	return s
}

func getting(node int, key string, quorum int) api.Step {
	return api.Step{Kind: api.StepGet, Node: node, Key: key, Quorum: quorum}
}

func delivering(i int) api.Step { return api.Step{Kind: api.StepDeliver, I: i} }

func dropping(i int) api.Step { return api.Step{Kind: api.StepDrop, I: i} }

func doubling(i int) api.Step { return api.Step{Kind: api.StepDouble, I: i} }

func moving(i, j int) api.Step { return api.Step{Kind: api.StepMove, I: i, J: j} }

func firing(node, i int) api.Step { return api.Step{Kind: api.StepFire, Node: node, I: i} }

func crashing(node int) api.Step { return api.Step{Kind: api.StepCrash, Node: node} }

func arming(node, i, j int) api.Step { return api.Step{Kind: api.StepArm, Node: node, I: i, J: j} }

func restarting(node int) api.Step { return api.Step{Kind: api.StepRestart, Node: node} }

func seeing(node int) api.Step { return api.Step{Kind: api.StepSee, Node: node} }

func bagging() api.Step { return api.Step{Kind: api.StepBag} }

func imaging(node int) api.Step { return api.Step{Kind: api.StepImage, Node: node} }

func writing(client int, key, value string, quorum int) api.Step {
	return api.Step{Kind: api.StepWrite, Client: client, Key: key, Value: []byte(value), Quorum: quorum}
}

func rereading(client int, key string, quorum int) api.Step {
	return api.Step{Kind: api.StepRead, Client: client, Key: key, Quorum: quorum}
}

func asking(client int, key string) api.Step {
	return api.Step{Kind: api.StepClient, Client: client, Key: key}
}

func sp(node, base int) api.Span { return api.Span{Node: node, Base: base} }

func spans(l ...api.Span) []api.Span { return l }

func dot(node, count int) api.Dot { return api.Dot{Node: node, Count: count} }

// wr: a write of the value v.
func wr(key, value string, node, count int, ctx ...api.Span) api.Write {
	return api.Write{Dot: dot(node, count), Key: key, Value: []byte(value), Ctx: ctx}
}

// done: the end of a Put, or of a Get without a token.
func done(call int, l ...api.Write) api.Done { return api.Done{Call: call, Writes: l} }

// got: the end of a Get.
func got(call int, token []api.Span, l ...api.Write) api.Done {
	return api.Done{Call: call, Writes: l, Token: token}
}

func bad(call int, err api.Errno) api.Done { return api.Done{Call: call, Err: err} }

// began: the answer of a call that began, and of what ended with it.
func began(call int, l ...api.Done) api.Answer { return api.Answer{Call: call, Done: l} }

func ended(l ...api.Done) api.Answer { return api.Answer{Done: l} }

func refused(err api.Errno) api.Answer { return api.Answer{Err: err} }

// show: lists as text; nil and empty are the same.
func show(w api.Write) string {
	return fmt.Sprintf("%d.%d%v%q %v %q", w.Dot.Node, w.Dot.Count, w.Ctx, w.Key, w.Dead, w.Value)
}

func showAll(l []api.Write) string {
	var parts []string
	for _, w := range l {
		parts = append(parts, show(w))
	}
	return "[" + strings.Join(parts, ", ") + "]"
}

func showMsg(m api.Msg) string {
	return fmt.Sprintf("{kind %d, %d to %d, call %d, range %d, owner %d, key %q, dot %v, set %v, writes %s}",
		m.Kind, m.From, m.To, m.Call, m.Range, m.Owner, m.Key, m.Dot, m.Set, showAll(m.Writes))
}

// showLetter: what a letter's bytes say.
func showLetter(l api.Letter) string {
	m, at, err := wire.Decode(l.Data)
	if err != api.OK {
		return fmt.Sprintf("{%d to %d, no message at %d: %x}", l.From, l.To, at, l.Data)
	}
	return fmt.Sprintf("%d to %d: %s", l.From, l.To, showMsg(m))
}

func showState(s api.State) string {
	text := fmt.Sprintf("clocks %v", s.Clocks)
	for _, l := range s.Keys {
		text += ", key " + showAll(l)
	}
	for _, h := range s.Hints {
		text += fmt.Sprintf(", for %d %s", h.Owner, show(h.Write))
	}
	return text
}

func showSight(s api.Sight) string {
	return fmt.Sprintf("up %v, Gen %d, timers %v, calls %v, %s", s.Up, s.State.Gen, s.Timers, s.Calls, showState(s.State))
}

func showAnswer(a api.Answer) string {
	text := fmt.Sprintf("error %d, call %d, node %d, heads %v, image of %d, %s", a.Err, a.Call, a.Node, a.Heads, len(a.Image), showSight(a.Sight))
	for _, d := range a.Done {
		text += fmt.Sprintf(", {call %d ends, %d, token %v, writes %s}", d.Call, d.Err, d.Token, showAll(d.Writes))
	}
	for _, l := range a.Bag {
		text += ", " + showLetter(l)
	}
	return text
}

// want: the step answers just this.
func (p *play) want(s api.Step, want api.Answer) api.Answer {
	p.t.Helper()
	a := p.Do(s)
	if showAnswer(a) != showAnswer(want) {
		p.t.Errorf("%+v:\n%s; want\n%s", s, showAnswer(a), showAnswer(want))
	}
	return a
}

// does: these steps have no error.
func (p *play) does(l ...api.Step) {
	p.t.Helper()
	for _, s := range l {
		if a := p.Do(s); a.Err != api.OK {
			p.t.Fatalf("%+v: %s", s, showAnswer(a))
		}
	}
}

// get: what a Get that ends at once is answered.
func (p *play) get(node int, key string) api.Done {
	p.t.Helper()
	a := p.Do(getting(node, key, 1))
	if a.Err != api.OK || len(a.Done) != 1 {
		p.t.Fatalf("a Get of %s at %d: %s", key, node, showAnswer(a))
	}
	return a.Done[0]
}

// looks: all that is to be seen of a cluster.
func (p *play) looks(keys ...string) string {
	text := ""
	for node := range p.config.Nodes {
		text += fmt.Sprintf("%s; %d raw writes, on %v\n", showAnswer(p.Do(seeing(node))), p.places[node].disk.Writes(), p.places[node].disk.IsOn())
	}
	text += showAnswer(p.Do(bagging())) + fmt.Sprint(p.bag.Counts()) + "\n"
	for i := range api.MaxClients {
		for _, key := range keys {
			text += showAnswer(p.Do(asking(i, key))) + fmt.Sprint(p.clients[i].Token(key)) + "\n"
		}
	}
	return text
}

// refuses: the step is, and nothing has changed.
func (p *play) refuses(s api.Step, err api.Errno) {
	p.t.Helper()
	was := p.looks("k", "a")
	p.want(s, refused(err))
	if now := p.looks("k", "a"); now != was {
		p.t.Errorf("%+v: it is refused, and changes\n%s; it was\n%s", s, now, was)
	}
}

// wantBag: these messages are under way, each in a letter from and to whom it says.
func (p *play) wantBag(want ...api.Msg) {
	p.t.Helper()
	got := p.Do(bagging()).Bag
	same := slices.EqualFunc(got, want, func(l api.Letter, m api.Msg) bool {
		data, err := wire.Encode(m)
		return err == api.OK && string(l.Data) == string(data) && l.From == m.From && l.To == m.To
	})
	if !same {
		text := ""
		for _, m := range want {
			text += showMsg(m)
		}
		p.t.Errorf("the bag: %s; want %s", showAnswer(p.Do(bagging())), text)
	}
}

func (p *play) wantKeys(node int, want ...[]api.Write) {
	p.t.Helper()
	if got := p.Do(seeing(node)).Sight.State; showState(api.State{Keys: got.Keys}) != showState(api.State{Keys: want}) {
		p.t.Errorf("node %d stores %s; want %s", node, showState(got), showState(api.State{Keys: want}))
	}
}

func (p *play) wantHints(node int, want ...api.Hint) {
	p.t.Helper()
	if got := p.Do(seeing(node)).Sight.State; showState(api.State{Hints: got.Hints}) != showState(api.State{Hints: want}) {
		p.t.Errorf("node %d keeps %s; want %s", node, showState(got), showState(api.State{Hints: want}))
	}
}

// wantHeads: what a session has seen of a key, and whom it calls next.
func (p *play) wantHeads(client int, key string, next int, heads ...api.Dot) {
	p.t.Helper()
	p.want(asking(client, key), api.Answer{Node: next, Heads: heads})
}

// timerOf: the place of the node's first timer of this kind.
func (p *play) timerOf(node, kind int) int {
	return slices.IndexFunc(p.Do(seeing(node)).Sight.Timers, func(x api.Timer) bool { return x.Kind == kind })
}

// empty delivers all that is under way, and what comes of it.
func (p *play) empty() []api.Answer {
	p.t.Helper()
	var out []api.Answer
	for range 10000 {
		if p.bag.Len() == 0 {
			return out
		}
		out = append(out, p.Do(delivering(0)))
	}
	p.t.Fatalf("the bag is never empty")
	return nil
}

// onDisk: what the bytes of a node's disk have, also while it is down.
func (p *play) onDisk(node int) api.State {
	p.t.Helper()
	d, err := disk.From(p.Do(imaging(node)).Image)
	if err != api.OK {
		p.t.Fatalf("node %d has no image: %d", node, err)
	}
	s, err := store.Open(d, p.config, node)
	if err != api.OK {
		p.t.Fatalf("node %d can't be opened on its bytes: %d", node, err)
	}
	state := s.See()
	state.Gen-- // this Open's own
	return state
}

// inParallel plays seeds side by side, and adds up what was met.
func inParallel(t *testing.T, seeds int64, run func(t *testing.T, seed int64, met map[string]int), least map[string]int) {
	t.Helper()
	const groups = 8
	var met [groups]map[string]int
	t.Run("seeds", func(t *testing.T) {
		for group := range met {
			met[group] = map[string]int{}
			t.Run(fmt.Sprint(group), func(t *testing.T) {
				t.Parallel()
				for seed := int64(group); seed < seeds; seed += groups {
					run(t, seed, met[group])
					if t.Failed() {
						t.Fatalf("seed %d", seed)
					}
				}
			})
		}
	})
	for what, n := range least {
		sum := 0
		for _, m := range met {
			sum += m[what]
		}
		if sum < n {
			t.Errorf("%q was met only %d times", what, sum)
		}
	}
}

func msgStore(from, to, call int, w api.Write) api.Msg {
	return api.Msg{Kind: api.MsgStore, From: from, To: to, Call: call, Writes: []api.Write{w}}
}

func msgStored(from, to, call, owner int) api.Msg {
	return api.Msg{Kind: api.MsgStored, From: from, To: to, Call: call, Owner: owner}
}

func msgKeep(from, to, call, owner int, w api.Write) api.Msg {
	return api.Msg{Kind: api.MsgKeep, From: from, To: to, Call: call, Owner: owner, Writes: []api.Write{w}}
}

func msgAsk(from, to, call int, key string) api.Msg {
	return api.Msg{Kind: api.MsgAsk, From: from, To: to, Call: call, Key: key}
}

func msgTell(from, to, call int, key string, set []api.Span, l ...api.Write) api.Msg {
	return api.Msg{Kind: api.MsgTell, From: from, To: to, Call: call, Key: key, Set: set, Writes: l}
}

func msgSeek(from, to, call, owner int, key string) api.Msg {
	return api.Msg{Kind: api.MsgSeek, From: from, To: to, Call: call, Owner: owner, Key: key}
}

func msgFound(from, to, call, owner int, key string, l ...api.Write) api.Msg {
	return api.Msg{Kind: api.MsgFound, From: from, To: to, Call: call, Owner: owner, Key: key, Writes: l}
}

func msgClock(from, to, rng int, set ...api.Span) api.Msg {
	return api.Msg{Kind: api.MsgClock, From: from, To: to, Range: rng, Set: set}
}

func msgShip(from, to, rng int, set []api.Span, l ...api.Write) api.Msg {
	return api.Msg{Kind: api.MsgShip, From: from, To: to, Range: rng, Set: set, Writes: l}
}

func msgBack(from, to int, w api.Write) api.Msg {
	return api.Msg{Kind: api.MsgBack, From: from, To: to, Writes: []api.Write{w}}
}

func msgTook(from, to int, key string, d api.Dot) api.Msg {
	return api.Msg{Kind: api.MsgTook, From: from, To: to, Key: key, Dot: d}
}
