package script

import (
	"bytes"
	"math"
	"slices"
	"strings"
	"testing"

	"rookery/api"
)

func TestP1706Print(t *testing.T) {
	wantPrint(t, three(), nil, head)
	wantPrint(t, three(), []api.Step{}, head)
	wantPrint(t, api.Config{}, nil, "nodes 0 prefer 0 ranges 0 siblings 0 gap 0 count 0 keys 0 hints 0 bag 0\n")
	wantPrint(t, api.Config{Nodes: -1, Prefer: 22, Ranges: math.MinInt, Siblings: math.MaxInt, Gap: 5, Count: 6, Keys: 7, Hints: -8, Bag: 1 << 62}, nil,
		"nodes -1 prefer 22 ranges -9223372036854775808 siblings 9223372036854775807 gap 5 count 6 keys 7 hints -8 bag 4611686018427387904\n")
	text := head
	var all []api.Step
	for _, x := range samples() {
		wantPrint(t, three(), []api.Step{x.step}, head+x.line+"\n")
		text += x.line + "\n"
		all = append(all, x.step)
	}
	wantPrint(t, three(), all, text)
	slices.Reverse(all)
	wantPrint(t, three(), append(all, all[0]), head+"client 28 k\n"+strings.Join(reversedLines(text), "")+"client 28 k\n")
}

// reversedLines: the lines behind the first, from the last but one on.
func reversedLines(text string) []string {
	l := strings.SplitAfter(text, "\n")
	l = l[1 : len(l)-2]
	slices.Reverse(l)
	return l
}

// TestP1706Bytes: each byte of a key and a value has its text word.
func TestP1706Bytes(t *testing.T) {
	var all []byte
	for c := range 256 {
		all = append(all, byte(c))
		b := []byte{'x', byte(c)}
		wantPrint(t, three(), []api.Step{{Kind: api.StepWrite, Key: string(b), Value: b[1:]}}, head+"write 0 "+spelt(b)+" "+spelt(b[1:])+" 0\n")
	}
	wantPrint(t, three(), []api.Step{{Kind: api.StepPut, Key: string(all), Value: all}}, head+"put 0 "+spelt(all)+" "+spelt(all)+" 0\n")
	wantPrint(t, three(), []api.Step{{Kind: api.StepPut, Key: "a b-", Value: []byte("\x00\x7f\xff/:@[`{%")}}, head+"put 0 a%20b%2D %00%7F%FF%2F%3A%40%5B%60%7B%25 0\n")
	wantPrint(t, three(), []api.Step{{Kind: api.StepPut, Value: []byte{}}, {Kind: api.StepPut, Dead: true, Value: []byte{}}}, head+"put 0 - - 0\ndel 0 - 0\n")
}

// TestP1706FieldsNotTold: each field that a step's line doesn't tell, and that is not zero.
func TestP1706FieldsNotTold(t *testing.T) {
	told := map[string]string{
		"put": "NKVQSF", "del": "NKQSF", "get": "NKQS", "deliver": "I", "drop": "I", "double": "I", "move": "IJ", "fire": "NI", "crash": "N",
		"restart": "N", "see": "N", "image": "N", "arm": "NIJ", "bag": "", "write": "CKVQ", "wipe": "CKQ", "read": "CKQ", "client": "CK",
	}
	set := map[string]func(s *api.Step, n int){
		"N": func(s *api.Step, n int) { s.Node = n }, "K": func(s *api.Step, _ int) { s.Key = "k" }, "V": func(s *api.Step, _ int) { s.Value = []byte{0} }, "Q": func(s *api.Step, n int) { s.Quorum = n },
		"S": func(s *api.Step, _ int) { s.Sloppy = true }, "F": func(s *api.Step, n int) { s.From = n }, "I": func(s *api.Step, n int) { s.I = n }, "J": func(s *api.Step, n int) { s.J = n }, "C": func(s *api.Step, n int) { s.Client = n },
	}
	for word, fields := range told {
		for sign, do := range set {
			for _, n := range []int{1, -1, math.MaxInt, math.MinInt} {
				s := api.Step{Kind: plainKinds[word], Dead: word == "del" || word == "wipe"}
				do(&s, n)
				if strings.Contains(fields, sign) {
					wantPrint(t, three(), []api.Step{s}, head+plainStepText(s))
					continue
				}
				wantRefused(t, []api.Step{s}, api.ErrArg)
				wantRefused(t, []api.Step{{Kind: api.StepBag}, s, {Kind: api.StepBag}}, api.ErrArg)
			}
		}
	}
	for kind := api.StepPut; kind <= api.StepClient; kind++ {
		if kind != api.StepPut && kind != api.StepWrite {
			wantRefused(t, []api.Step{{Kind: kind, Dead: true}}, api.ErrArg)
		}
	}
}

func TestP1706NoSuchKind(t *testing.T) {
	for _, kind := range []int{0, -1, 17, 18, 170, 257, math.MaxInt, math.MinInt} {
		for _, dead := range []bool{false, true} {
			wantRefused(t, []api.Step{{Kind: kind, Dead: dead}}, api.ErrArg)
			wantRefused(t, []api.Step{{Kind: api.StepBag}, {Kind: kind, Node: 1, Dead: dead}}, api.ErrArg)
		}
	}
}

// TestP1706Limits: at a limit all is well, one past it is refused; and which error goes ahead of which.
func TestP1706Limits(t *testing.T) {
	steps := slices.Repeat([]api.Step{{Kind: api.StepBag}}, api.MaxSteps+1)
	wantPrint(t, three(), steps[1:], head+strings.Repeat("bag\n", api.MaxSteps))
	wantRefused(t, steps, api.ErrLong)
	steps[0].Kind = 99
	wantRefused(t, steps, api.ErrLong)
	wantRefused(t, steps[:api.MaxSteps], api.ErrArg)

	room := api.MaxText - len(head) - len("put 0 k  1\n")
	put := func(value []byte) api.Step {
		return api.Step{Kind: api.StepPut, Key: "k", Value: value, Quorum: 1}
	}
	full := bytes.Repeat([]byte("v"), room)
	wantPrint(t, three(), []api.Step{put(full)}, head+"put 0 k "+string(full)+" 1\n")
	wantRefused(t, []api.Step{put(append(full, 'v'))}, api.ErrLong)
	coded := append(bytes.Repeat([]byte("%"), room/3), bytes.Repeat([]byte("v"), room%3)...)
	wantPrint(t, three(), []api.Step{put(coded)}, head+"put 0 k "+spelt(coded)+" 1\n")
	wantRefused(t, []api.Step{put(append(coded, 'v'))}, api.ErrLong)
	wantRefused(t, []api.Step{put(full), {Kind: api.StepBag}}, api.ErrLong)
	wantRefused(t, []api.Step{put(append(full, full...)), {}}, api.ErrArg)
	wantRefused(t, []api.Step{put(full), put(full), {Kind: api.StepBag, I: 1}}, api.ErrArg)
	wantRefused(t, []api.Step{{Kind: api.StepRead, Key: string(full)}, {Kind: api.StepRead, Key: string(full)}}, api.ErrLong)
	many := slices.Repeat([]api.Step{put(bytes.Repeat([]byte{0}, 64))}, 6000)
	line := plainStepText(many[0])
	fit := (api.MaxText - len(head)) / len(line)
	wantPrint(t, three(), many[:fit], head+strings.Repeat(line, fit))
	wantRefused(t, many[:fit+1], api.ErrLong)
	wantRefused(t, many, api.ErrLong)
}

// TestP1706VeryLong: what is far too long is refused without its text being made.
func TestP1706VeryLong(t *testing.T) {
	value := make([]byte, 1<<28)
	steps := slices.Repeat([]api.Step{{Kind: api.StepPut, Value: value}, {Kind: api.StepWrite, Value: value}}, api.MaxSteps/2)
	wantRefused(t, steps, api.ErrLong)
	wantRefused(t, append(steps[1:], api.Step{}), api.ErrArg)
}
