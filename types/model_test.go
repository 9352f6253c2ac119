package types

import (
	"fmt"
	"math/rand"
	"testing"

	"rookery/api"
)

func oneOf[T any](r *rand.Rand, l ...T) T { return l[r.Intn(len(l))] }

// anyElement: one of a few, so that they meet.
func anyElement(r *rand.Rand) string {
	return oneOf(r, "a", "b", "ab", "\x00", "\xFF\x80", "abcdefgh", "bcdefghi", "cdefghij")
}

// someActors: a few, so that they meet; or one that nobody else may be.
func someActors(r *rand.Rand) []int {
	return oneOf(r, []int{0, 1, 2, 7}, []int{r.Intn(8)})
}

// anyCount: mostly small, so that tags meet.
func anyCount(r *rand.Rand) int {
	return oneOf(r, 0, 0, 1, 1, 2, 2, 3, 4, 255, 256, 65534, 65535)
}

// anyValue: any value of a type whose form is no wider than it may be, also one that no calls lead to.
func anyValue(r *rand.Rand, kind int) *plain {
	p := newPlain(kind)
	switch kind {
	case Counter:
		for range r.Intn(5) {
			actor := r.Intn(8)
			p.up[actor], p.down[actor] = oneOf(r, 0, 1, 2, 256, 16777215), oneOf(r, 0, 1, 2, 65536, 16777215)
		}
	case Set:
		who := someActors(r)
		for range r.Intn(4) {
			p.count[oneOf(r, who...)] = anyCount(r)
		}
		for range r.Intn(8) {
			p.anyTag(r, oneOf(r, who...), anyElement(r))
		}
	case Flag:
		who := someActors(r)
		for range r.Intn(4) {
			p.count[oneOf(r, who...)] = anyCount(r)
		}
		for range r.Intn(4) {
			p.anyTag(r, oneOf(r, who...), "")
		}
	case Register:
		if p.stamp = oneOf(r, 0, 1, 1, 1, 2, 256, 16777215); p.stamp > 0 {
			p.actor, p.text = oneOf(r, 0, 1, 7), oneOf(r, "", "a", "b", "ab", "a\x00", "\xFF")
		}
	}
	if len(p.form()) > 64 {
		return anyValue(r, kind)
	}
	return p
}

// anyTag gives an element a tag, instead of the one that the actor has there.
func (p *plain) anyTag(r *rand.Rand, actor int, element string) {
	if p.count[actor] == 0 {
		return
	}
	for x := range p.tags {
		if x.element == element && x.actor == actor {
			delete(p.tags, x)
		}
	}
	no := 1 + r.Intn(min(p.count[actor], 4))
	if r.Intn(3) == 0 {
		no = p.count[actor]
	}
	p.tags[tag{element, actor, no}] = 1
}

// pair: a value, and the plain one.
type pair struct {
	v *Value
	p *plain
}

func readPair(t *testing.T, p *plain) pair {
	t.Helper()
	v, err := Read(p.kind, p.form())
	if err != api.OK {
		t.Fatalf("Read(% X): %d", p.form(), err)
	}
	return pair{v, p}
}

// anyDoing does something to both, and tells both answers.
func (x pair) anyDoing(r *rand.Rand) (what string, got, want api.Errno) {
	actor := oneOf(r, 0, 1, 2, 7, r.Intn(8), r.Intn(12)-2)
	k := oneOf(r, x.p.kind, x.p.kind, x.p.kind, x.p.kind, 1+r.Intn(5))
	switch k {
	case Counter:
		by := oneOf(r, 0, 1, -1, 5, -7, 16777214, -16777215, 16777216, r.Intn(1<<25)-1<<24, -1<<63)
		return fmt.Sprintf("Add(%d, %d)", actor, by), x.v.Add(actor, by), x.p.add(actor, by)
	case Set:
		e := oneOf(r, anyElement(r), anyElement(r), anyElement(r), "", "123456789", string(text(1+r.Intn(8))), "12345678", "bcdefghi", "zyxwvuts")
		if r.Intn(3) == 0 {
			return fmt.Sprintf("Take(%q)", e), x.v.Take([]byte(e)), x.p.take(e)
		}
		return fmt.Sprintf("Put(%d, %q)", actor, e), x.v.Put(actor, []byte(e)), x.p.put(actor, e)
	case Flag:
		on := r.Intn(2) == 0
		return fmt.Sprintf("Switch(%d, %v)", actor, on), x.v.Switch(actor, on), x.p.turn(actor, on)
	case Register:
		text := string(text(oneOf(r, 0, 1, 2, 58, 59, 60)))
		return fmt.Sprintf("Write(%d, %q)", actor, text), x.v.Write(actor, []byte(text)), x.p.write(actor, text)
	}
	return "Merge(nil)", x.v.Merge(nil), api.ErrType
}

// TestModel: random calls on a few values of all types, against plain ones; the errors, and what is to be seen of all values.
func TestModel(t *testing.T) {
	met := map[api.Errno]int{}
	for seed := range int64(1000) {
		r := rand.New(rand.NewSource(seed))
		var all []pair
		for _, kind := range append(kinds, kinds[seed%4], kinds[seed%4], kinds[seed%4]) {
			all = append(all, pair{fresh(t, kind), newPlain(kind)})
		}
		for range 60 {
			i := r.Intn(len(all))
			x := all[i]
			what, got, want := "", api.OK, api.OK
			switch r.Intn(12) {
			case 0, 1:
				o := oneOf(r, all...)
				what, got = "Merge", x.v.Merge(o.v)
				if want = api.ErrType; o.p.kind == x.p.kind {
					want = api.OK
					x.p.merge(o.p.copied())
				}
			case 2:
				all[i] = readPair(t, anyValue(r, x.p.kind))
			default:
				what, got, want = x.anyDoing(r)
			}
			met[want]++
			wantErr(t, what, got, want)
			for _, y := range all {
				wantSame(t, y.v, y.p)
			}
			if t.Failed() {
				t.Fatalf("seed %d, %s", seed, what)
			}
		}
	}
	for _, err := range []api.Errno{api.OK, api.ErrArg, api.ErrLong, api.ErrWide, api.ErrCount, api.ErrType, api.ErrActor} {
		if met[err] < 20 {
			t.Errorf("the error %d was met only %d times", err, met[err])
		}
	}
}

// TestP1908Model: siblings resolve to what plain values merge to, in whatever order.
func TestP1908Model(t *testing.T) {
	for seed := range int64(2000) {
		r := rand.New(rand.NewSource(seed))
		kind := kinds[seed%4]
		want := newPlain(kind)
		var l []api.Write
		for range r.Intn(7) {
			p := anyValue(r, kind)
			w := api.Write{Value: p.form(), Dead: r.Intn(5) == 0}
			if l = append(l, w); !w.Dead {
				want.merge(p)
			}
		}
		v, err := Resolve(kind, l)
		wantErr(t, "Resolve", err, api.OK)
		wantSame(t, v, want)
		r.Shuffle(len(l), func(i, j int) { l[i], l[j] = l[j], l[i] })
		v, _ = Resolve(kind, l)
		if wantSame(t, v, want); t.Failed() {
			t.Fatalf("seed %d", seed)
		}
	}
}
