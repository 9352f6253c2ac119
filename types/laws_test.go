package types

import (
	"bytes"
	"math/rand"
	"testing"

	"rookery/api"
)

// some: a value of a type that may be wider than its bytes: a few merged into one.
func some(t *testing.T, r *rand.Rand, kind int) *Value {
	t.Helper()
	v := fresh(t, kind)
	for range 1 + r.Intn(3) {
		wantErr(t, "Merge", v.Merge(readPair(t, anyValue(r, kind)).v), api.OK)
	}
	return v
}

// both: what two come to, which stay as they are.
func both(t *testing.T, a, b *Value) *Value {
	t.Helper()
	v := &Value{body: a.body}
	wantErr(t, "Merge", v.Merge(b), api.OK)
	return v
}

func wantAlike(t *testing.T, law string, a, b *Value) {
	t.Helper()
	if !bytes.Equal(a.body.form(), b.body.form()) {
		t.Errorf("%s: % X and % X", law, a.body.form(), b.body.form())
	}
}

// TestP1912Laws: of any values, whatever led to them.
func TestP1912Laws(t *testing.T) {
	wide := 0
	for seed := range int64(20000) {
		r := rand.New(rand.NewSource(seed))
		kind := kinds[seed%4]
		a, b, c := some(t, r, kind), some(t, r, kind), some(t, r, kind)
		ab, bc := both(t, a, b), both(t, b, c)
		wantAlike(t, "commutative", ab, both(t, b, a))
		wantAlike(t, "associative", both(t, ab, c), both(t, a, bc))
		wantAlike(t, "idempotent", both(t, a, a), a)
		wantAlike(t, "absorbing", both(t, ab, a), ab)
		wantAlike(t, "absorbing", both(t, b, ab), ab)
		wantAlike(t, "nothing merged in", both(t, a, fresh(t, kind)), a)
		wantAlike(t, "merged into nothing", both(t, fresh(t, kind), a), a)
		if !ab.body.right() {
			t.Errorf("merged to what is no value: % X", ab.body.form())
		}
		if _, err := ab.Bytes(); err == api.ErrWide {
			wide++
		}
		if t.Failed() {
			t.Fatalf("seed %d", seed)
		}
	}
	if wide < 100 {
		t.Errorf("only %d were too wide", wide)
	}
}
