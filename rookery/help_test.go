package rookery

import (
	"fmt"
	"slices"
	"strings"
	"testing"

	"rookery/api"
	"rookery/cluster"
	"rookery/script"
)

// three: the config of the chapter's examples: the range 0 prefers 1 and 2 (p and q), 0 stands in.
const three = "nodes 3 prefer 2 ranges 1 siblings 2 gap 4 count 100 keys 2 hints 2 bag 50"

// rows: steps as lines, with semicolons between.
func rows(text string) string {
	if text == "" {
		return ""
	}
	return strings.ReplaceAll(text, "; ", "\n") + "\n"
}

// read: the config's line, and steps as in rows.
func read(t *testing.T, config, steps string) (api.Config, []api.Step) {
	t.Helper()
	c, l, line, column, err := script.Parse(config + "\n" + rows(steps))
	if err != api.OK {
		t.Fatalf("%s; %s: no script at %d, %d: %d", config, steps, line, column, err)
	}
	return c, l
}

// spelt: steps as in rows. What a step's line doesn't tell must be zero.
func spelt(t *testing.T, steps []api.Step) string {
	t.Helper()
	var parts []string
	for _, s := range steps {
		text, err := script.Print(api.Config{}, []api.Step{s})
		if err != api.OK {
			t.Fatalf("%+v has fields that its line does not tell", s)
		}
		_, line, _ := strings.Cut(text, "\n")
		parts = append(parts, strings.TrimSuffix(line, "\n"))
	}
	return strings.Join(parts, "; ")
}

// wantSettle: behind these steps it comes to rest by those.
func wantSettle(t *testing.T, config, steps, want string) {
	t.Helper()
	c, l := read(t, config, steps)
	further, err := Settle(c, l)
	if err != api.OK || spelt(t, further) != want {
		t.Errorf("Settle(%s): %s, %d; want\n%s", steps, spelt(t, further), err, want)
	}
}

func wantUnrest(t *testing.T, config, steps string) {
	t.Helper()
	c, l := read(t, config, steps)
	if further, err := Settle(c, l); err != api.ErrLong || len(further) != 0 {
		t.Errorf("Settle(%s): %d steps, %d; want ErrLong", steps, len(further), err)
	}
}

// wantCensus: a row of numbers for each range.
func wantCensus(t *testing.T, config, steps string, want ...[]int) {
	t.Helper()
	c, l := read(t, config, steps)
	got, err := Census(c, l)
	if err != api.OK || !slices.EqualFunc(got, want, slices.Equal[[]int]) {
		t.Errorf("Census(%s): %v, %d; want %v", steps, got, err, want)
	}
}

// played: the cluster behind all these steps.
func played(t *testing.T, c api.Config, steps ...[]api.Step) *cluster.Cluster {
	t.Helper()
	all, err := cluster.New(c)
	if err != api.OK {
		t.Fatalf("New(%v): %d", c, err)
	}
	for _, l := range steps {
		for _, s := range l {
			all.Do(s)
		}
	}
	return all
}

func seen(all *cluster.Cluster, node int) api.Sight {
	return all.Do(api.Step{Kind: api.StepSee, Node: node}).Sight
}

func bag(all *cluster.Cluster) []api.Letter {
	return all.Do(api.Step{Kind: api.StepBag}).Bag
}

// inParallel plays seeds side by side, and adds up what was met.
func inParallel(t *testing.T, seeds int64, run func(t *testing.T, seed int64, met map[string]int), least map[string]int) {
	t.Helper()
	const groups = 8
	var met [groups]map[string]int
	t.Run("seeds", func(t *testing.T) {
		for group := range met {
			met[group] = map[string]int{}
			t.Run(fmt.Sprint(group), func(t *testing.T) {
				t.Parallel()
				for seed := int64(group); seed < seeds; seed += groups {
					run(t, seed, met[group])
					if t.Failed() {
						t.Fatalf("seed %d", seed)
					}
				}
			})
		}
	})
	for what, n := range least {
		sum := 0
		for _, m := range met {
			sum += m[what]
		}
		if sum < n {
			t.Errorf("%q was met only %d times", what, sum)
		}
	}
}
