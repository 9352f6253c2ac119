package script

import (
	"math"
	"math/rand"
	"strings"
	"testing"

	"rookery/api"
)

// wantAsPlain: the text is read as the plain reader reads it, and what is a script is printed as it was, without the lines that mean nothing.
func wantAsPlain(t *testing.T, text string) {
	t.Helper()
	want, steps, line, column, wantErr := plainParse(text)
	c, l, n, at, err := Parse(text)
	if c != want || !sameSteps(l, steps) || n != line || at != column || err != wantErr {
		t.Fatalf("Parse(%q): %v, %v, %d, %d, %d; want %v, %v, %d, %d, %d", text, c, l, n, at, err, want, steps, line, column, wantErr)
	}
	if err == api.OK {
		wantPrint(t, c, l, meaning(text))
	}
}

// meaning: a script without the lines that mean nothing.
func meaning(text string) string {
	out := ""
	for _, line := range strings.SplitAfter(text, "\n") {
		if line != "\n" && !strings.HasPrefix(line, "#") {
			out += line
		}
	}
	return out
}

func randomNumber(r *rand.Rand) int {
	switch r.Intn(6) {
	case 0:
		return 0
	case 1:
		return []int{math.MaxInt, math.MinInt, math.MaxInt - 1, math.MinInt + 1, -1, math.MaxInt32 + 1}[r.Intn(6)]
	case 2:
		return int(r.Uint64()) >> r.Intn(64)
	}
	return r.Intn(12)
}

func randomBytes(r *rand.Rand) []byte {
	b := make([]byte, max(0, r.Intn(12)-2))
	for i := range b {
		b[i] = "kvA_.-%# \n\x00\xff0"[r.Intn(13)]
		if r.Intn(3) == 0 {
			b[i] = byte(r.Intn(256))
		}
	}
	return b
}

func randomConfig(r *rand.Rand) api.Config {
	n := func() int { return randomNumber(r) }
	return api.Config{Nodes: n(), Prefer: n(), Ranges: n(), Siblings: n(), Gap: n(), Count: n(), Keys: n(), Hints: n(), Bag: n()}
}

// randomStep: a step with just the fields that its line tells.
func randomStep(r *rand.Rand) api.Step {
	s := samples()[r.Intn(len(samples()))].step
	for _, n := range []*int{&s.Node, &s.Quorum, &s.From, &s.I, &s.J, &s.Client} {
		if *n != 0 {
			*n = randomNumber(r)
		}
	}
	if s.Key != "" {
		s.Key = string(randomBytes(r))
	}
	if len(s.Value) > 0 {
		s.Value = randomBytes(r)
	}
	return s
}

// randomScript: a script with lines that mean nothing here and there.
func randomScript(r *rand.Rand, steps int) string {
	idle := func() string {
		return []string{"", "", "", "", "\n", "#\n", "# why\n", "\n\n", "#\xff\x00\n"}[r.Intn(9)]
	}
	text := idle() + plainConfigText(randomConfig(r)) + idle()
	for range r.Intn(steps + 1) {
		text += plainStepText(randomStep(r)) + idle()
	}
	return text
}

// spoilt: a text with a few bytes changed, gone, or more.
func spoilt(r *rand.Rand, text string) string {
	b := []byte(text)
	for range 1 + r.Intn(2) {
		at := r.Intn(len(b) + 1)
		c := " \n-%#0123456789abcdefklmnoprstvwxyABCDEF_.\x00\xff"[r.Intn(43)]
		switch r.Intn(4) {
		case 0:
			b = append(b[:at:at], append([]byte{c}, b[at:]...)...)
		case 1:
			b = b[:at]
		default:
			if at < len(b) {
				b[at] = c
			}
		}
	}
	return string(b)
}

// TestModelParse: random scripts, and spoilt ones, against the plain reader.
func TestModelParse(t *testing.T) {
	for seed := range int64(2500) {
		r := rand.New(rand.NewSource(seed))
		text := randomScript(r, 6)
		wantAsPlain(t, text)
		wantAsPlain(t, spoilt(r, text))
	}
}

// TestModelAnyBytes: any bytes are answered.
func TestModelAnyBytes(t *testing.T) {
	for seed := range int64(2000) {
		r := rand.New(rand.NewSource(seed))
		b := make([]byte, r.Intn(12))
		for i := range b {
			b[i] = "nodes \n#-10\xff\x00"[r.Intn(13)]
		}
		wantAsPlain(t, string(b))
		wantAsPlain(t, head+string(b))
		wantAsPlain(t, head+"bag\n"+string(b))
	}
}

// TestP1707Back: what Print takes is read again as it was; and printed again as it stands.
func TestP1707Back(t *testing.T) {
	for seed := range int64(3000) {
		r := rand.New(rand.NewSource(seed))
		c := randomConfig(r)
		text := plainConfigText(c)
		var steps []api.Step
		for range r.Intn(20) {
			steps = append(steps, randomStep(r))
			text += plainStepText(steps[len(steps)-1])
		}
		wantPrint(t, c, steps, text)
		wantScript(t, text, c, steps...)
		if t.Failed() {
			t.Fatalf("seed %d", seed)
		}
	}
}

// TestP1707WithoutIdleLines: of a text Print tells what means something.
func TestP1707WithoutIdleLines(t *testing.T) {
	text, want := "#\n\n"+head+"\n", head
	for _, x := range samples() {
		text += "# " + x.line + "\n" + x.line + "\n\n#\n"
		want += x.line + "\n"
	}
	c, steps, _, _, err := Parse(text)
	if err != api.OK {
		t.Fatalf("Parse: %d", err)
	}
	wantPrint(t, c, steps, want)
}
