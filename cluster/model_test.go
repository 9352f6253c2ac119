package cluster

import (
	"fmt"
	"maps"
	"math"
	"math/rand"
	"slices"
	"strings"
	"testing"

	"rookery/api"
	"rookery/disk"
	"rookery/store"
)

func oneOf[T any](r *rand.Rand, l ...T) T { return l[r.Intn(len(l))] }

// writer: it makes steps up, for what there is.
type writer struct {
	r     *rand.Rand
	c     api.Config
	keys  []string
	calm  int // the greater, the fewer power failures and crashes
	wrong int // the greater, the fewer steps that are refused for what they say
}

// sight: of this cluster.
func (p *play) sight() sight {
	now := sight{letters: p.bag.Len(), calls: p.begun, reads: map[string][]int{}}
	for _, x := range p.places {
		now.up = append(now.up, x.isUp())
	}
	for _, call := range slices.Sorted(maps.Keys(p.reads)) {
		now.reads[p.reads[call].key] = append(now.reads[p.reads[call].key], call)
	}
	return now
}

// anyConfig: small numbers, so that limits are met.
func anyConfig(r *rand.Rand) api.Config {
	c := api.Config{Nodes: 1 + r.Intn(6), Ranges: 1 + r.Intn(4), Siblings: 1 + r.Intn(5), Gap: 1 + r.Intn(6), Count: oneOf(r, 3, 9, 100, 1000), Keys: 1 + r.Intn(5), Hints: r.Intn(5), Bag: oneOf(r, 1, 4, 12, 60, 256)}
	c.Prefer = 1 + r.Intn(min(c.Nodes, api.MaxPrefer))
	return c
}

// sight: what a step is made up for.
type sight struct {
	letters, calls int
	up             []bool
	reads          map[string][]int // of keys: the Gets whose tokens there are
}

func (x *writer) step(now sight) api.Step {
	r := x.r
	s := api.Step{Node: r.Intn(x.c.Nodes), Key: oneOf(r, x.keys...), Quorum: 1 + r.Intn(x.c.Prefer), Sloppy: r.Intn(2) == 0, Client: r.Intn(api.MaxClients), I: r.Intn(3)}
	if down := slices.Index(now.up, false); down >= 0 && r.Intn(15) == 0 {
		s.Node = down
		x.power(&s, now)
		return s
	}
	switch k := r.Intn(100); {
	case k < 13:
		x.put(&s, now)
	case k < 24:
		s.Kind, s.Node = api.StepGet, oneOf(r, preferred(x.c, s.Key)...)
	case k < 29:
		s.Kind, s.Dead = api.StepWrite, r.Intn(5) == 0
	case k < 35:
		s.Kind = api.StepRead
	case k < 36:
		s.Kind = oneOf(r, api.StepClient, api.StepSee, api.StepBag, api.StepImage)
	case k < 39:
		x.power(&s, now)
	case k < 43:
		s.Kind, s.I, s.J = oneOf(r, api.StepDrop, api.StepDouble, api.StepMove), r.Intn(now.letters+1), r.Intn(now.letters+1)
	case k < 50 || now.letters == 0:
		s.Kind = api.StepFire
	default:
		s.Kind, s.I = api.StepDeliver, r.Intn(now.letters)
	}
	if !s.Dead {
		s.Value = []byte(oneOf(r, "", "v", "word"))
	}
	if r.Intn(x.wrong) == 0 {
		x.spoil(&s)
	}
	return s
}

// put: mostly it carries the token of one of the last Gets; now and then of a call that may be none.
func (x *writer) put(s *api.Step, now sight) {
	s.Kind, s.Dead = api.StepPut, x.r.Intn(5) == 0
	s.Node = oneOf(x.r, preferred(x.c, s.Key)...)
	reads := now.reads[s.Key]
	switch k := x.r.Intn(6); {
	case k == 0:
		s.From = x.r.Intn(now.calls + 2)
	case k < 5 && len(reads) > 0:
		s.From = reads[max(0, len(reads)-1-x.r.Intn(4))]
	}
}

// power: nodes go down and up again.
func (x *writer) power(s *api.Step, now sight) {
	s.I, s.J = x.r.Intn(30), oneOf(x.r, x.r.Intn(513), 504, 505, 506, 512)
	switch {
	case !now.up[s.Node]:
		s.Kind = oneOf(x.r, api.StepRestart, api.StepRestart, api.StepRestart, api.StepArm)
	case x.r.Intn(x.calm) > 0:
		s.Kind = api.StepSee
	default:
		s.Kind = oneOf(x.r, api.StepArm, api.StepArm, api.StepCrash)
	}
}

// spoil: a step says something that may not be.
func (x *writer) spoil(s *api.Step) {
	switch x.r.Intn(8) {
	case 0:
		s.Node = oneOf(x.r, -1, x.c.Nodes, math.MaxInt, math.MinInt, x.r.Intn(x.c.Nodes), x.r.Intn(x.c.Nodes))
	case 1:
		s.Client = oneOf(x.r, -1, api.MaxClients, math.MaxInt, math.MinInt)
	case 2:
		s.Kind = oneOf(x.r, 0, -1, 17, math.MaxInt, math.MinInt)
	case 3:
		s.Key = oneOf(x.r, "", strings.Repeat("k", 17), strings.Repeat("\xff", 16), "\x00")
	case 4:
		s.Quorum = oneOf(x.r, 0, -1, x.c.Prefer+1, math.MaxInt, math.MinInt)
	case 5:
		s.I, s.J = oneOf(x.r, -1, 300, math.MaxInt, math.MinInt), oneOf(x.r, -1, 0, 300, math.MaxInt, math.MinInt)
	case 6:
		s.Value = oneOf(x.r, make([]byte, 64), make([]byte, 65), []byte("x"))
	case 7:
		s.From = oneOf(x.r, -1, 4096, math.MaxInt, math.MinInt)
	}
}

// twins: a cluster and the plain one.
type twins struct {
	*play
	plain *plain
	met   map[string]int
}

// step: both take it, and answer the same.
func (x *twins) step(s api.Step) {
	x.t.Helper()
	a, b := x.Do(s), x.plain.do(s)
	if showAnswer(a) != showAnswer(b) {
		x.t.Fatalf("%+v:\n%s; want\n%s", s, showAnswer(a), showAnswer(b))
	}
	if s.Kind == api.StepImage && a.Err == api.OK {
		x.image(s.Node, a.Image)
	}
	x.met[fmt.Sprintf("kind %d", s.Kind)]++
	x.met[fmt.Sprintf("error %d", a.Err)]++
	for _, d := range a.Done {
		x.met[fmt.Sprintf("done %d", d.Err)]++
	}
}

// image: its bytes tell the plain disk's state.
func (x *twins) image(node int, b []byte) {
	x.t.Helper()
	d, _ := disk.From(b)
	s, err := store.Open(d, x.config, node)
	if err != api.OK {
		x.t.Fatalf("node %d: its image can't be opened: %d", node, err)
	}
	want := x.plain.disks[node].state.see()
	if got := s.See(); got.Gen != want.Gen+1 || showState(got) != showState(want) {
		x.t.Fatalf("node %d has on its disk Gen %d, %s; want %d, %s", node, got.Gen, showState(got), want.Gen, showState(want))
	}
}

// alike: all that is to be seen of both is the same.
func (x *twins) alike(keys []string) {
	x.t.Helper()
	looks := []api.Step{bagging()}
	for node := range x.config.Nodes {
		looks = append(looks, seeing(node))
	}
	for i := range api.MaxClients {
		for _, key := range keys {
			looks = append(looks, asking(i, key))
		}
	}
	for _, s := range looks {
		if a, b := x.Do(s), x.plain.do(s); showAnswer(a) != showAnswer(b) {
			x.t.Fatalf("%+v:\n%s; want\n%s", s, showAnswer(a), showAnswer(b))
		}
	}
	for node, d := range x.plain.disks {
		got := x.places[node].disk
		if got.Writes() != d.raw || got.IsOn() != d.on {
			x.t.Fatalf("node %d: %d raw writes, on %v; want %d, %v", node, got.Writes(), got.IsOn(), d.raw, d.on)
		}
	}
	if len(x.open) != len(x.plain.open) || len(x.reads) != len(x.plain.reads) {
		x.t.Fatalf("%d calls are open, %d reads are remembered; want %d, %d", len(x.open), len(x.reads), len(x.plain.open), len(x.plain.reads))
	}
}

func playTwins(t *testing.T, seed int64, c api.Config, steps int, met map[string]int) {
	t.Helper()
	r := rand.New(rand.NewSource(seed))
	if !c.Right() {
		c = anyConfig(r)
	}
	x := &twins{play: fresh(t, c), plain: newPlain(c), met: met}
	w := &writer{r: r, c: c, keys: []string{"a", "k", "g", "p", "b", "c"}[:1+r.Intn(6)], calm: 1 + r.Intn(4), wrong: 30}
	for i := range steps {
		x.step(w.step(x.sight()))
		if t.Failed() {
			t.Fatalf("seed %d, step %d", seed, i)
		}
		if i%7 == 0 {
			x.alike(w.keys)
		}
	}
	x.alike(w.keys)
	for _, d := range x.plain.disks {
		if d.number > 256 {
			met["256 commits"]++
		}
	}
}

// TestW10Model: P1602, W5, W7, W10: random scripts of all kinds of steps, on all kinds of configs, are answered as by a cluster of plain sets.
func TestW10Model(t *testing.T) {
	least := map[string]int{}
	for kind := range 17 {
		least[fmt.Sprintf("kind %d", kind)] = 50
	}
	for _, err := range []api.Errno{
		api.OK, api.ErrArg, api.ErrLong, api.ErrDown, api.ErrNode, api.ErrTimer, api.ErrGap, api.ErrKey, api.ErrSiblings, api.ErrKeys, api.ErrHints, api.ErrCount, api.ErrMine, api.ErrIndex, api.ErrLost, api.ErrToken, api.ErrStep, api.ErrClient,
	} {
		least[fmt.Sprintf("error %d", err)] = 10
	}
	for _, err := range []api.Errno{api.OK, api.ErrQuorum, api.ErrGone, api.ErrStale} {
		least[fmt.Sprintf("done %d", err)] = 50
	}
	inParallel(t, 400, func(t *testing.T, seed int64, met map[string]int) {
		playTwins(t, seed, api.Config{}, 400, met)
	}, least)
}

// TestW10LongModel: scripts that outlast 256 commits of a node, on the chapter's config and greater ones.
func TestW10LongModel(t *testing.T) {
	great := api.Config{Nodes: 8, Prefer: 5, Ranges: 16, Siblings: 8, Gap: 64, Count: api.MaxCount, Keys: 64, Hints: 32, Bag: 256}
	two := api.Config{Nodes: 2, Prefer: 2, Ranges: 1, Siblings: 8, Gap: 64, Count: 1000, Keys: 8, Bag: 40}
	configs := []api.Config{three(), great, two, two, with(two, func(c *api.Config) { c.Gap = 2 })}
	inParallel(t, int64(len(configs)), func(t *testing.T, seed int64, met map[string]int) {
		playTwins(t, seed, configs[seed], 4000, met)
	}, map[string]int{"256 commits": 5})
}
