package script

import (
	"fmt"
	"math/rand"
	"reflect"
	"slices"
	"testing"
	"unsafe"

	"rookery/api"
)

// roomy: the same thing in memory of its own; each list in it has spare room, with something in it.
func roomy(v reflect.Value) reflect.Value {
	out := reflect.New(v.Type()).Elem()
	out.Set(v)
	switch v.Kind() {
	case reflect.Slice:
		out = reflect.MakeSlice(v.Type(), v.Len()+2, v.Len()+2)
		for i := range v.Len() {
			out.Index(i).Set(roomy(v.Index(i)))
		}
		for i := v.Len(); i < out.Len(); i++ {
			out.Index(i).Set(odd(v.Type().Elem()))
		}
		return out.Slice(0, v.Len())
	case reflect.Struct:
		for i := range v.NumField() {
			out.Field(i).Set(roomy(v.Field(i)))
		}
	}
	return out
}

// odd: something that is not zero.
func odd(t reflect.Type) reflect.Value {
	out := reflect.New(t).Elem()
	switch t.Kind() {
	case reflect.Int:
		out.SetInt(77)
	case reflect.Uint8, reflect.Uint64:
		out.SetUint(77)
	case reflect.Bool:
		out.SetBool(true)
	case reflect.String:
		out.SetString("odd")
	case reflect.Slice:
		out.Set(reflect.Append(out, odd(t.Elem())))
	case reflect.Struct:
		for i := range t.NumField() {
			out.Field(i).Set(odd(t.Field(i).Type))
		}
	}
	return out
}

// shown: all that is to be seen of a thing, spare room and all.
func shown(v reflect.Value) string {
	switch v.Kind() {
	case reflect.Slice:
		text := fmt.Sprint(v.Len(), "[")
		for i := range v.Cap() {
			text += shown(v.Slice(0, v.Cap()).Index(i)) + " "
		}
		return text + "]"
	case reflect.Struct:
		text := "{"
		for i := range v.NumField() {
			text += shown(v.Field(i)) + " "
		}
		return text + "}"
	}
	return fmt.Sprintf("%#v", v.Interface())
}

// spoil writes over all that a list has, and what its parts have, spare room and all.
func spoil(v reflect.Value) {
	switch v.Kind() {
	case reflect.Slice:
		all := v.Slice(0, v.Cap())
		for i := range all.Len() {
			spoil(all.Index(i))
			all.Index(i).Set(odd(v.Type().Elem()))
		}
	case reflect.Struct:
		for i := range v.NumField() {
			spoil(v.Field(i))
		}
	}
}

func randomSteps(r *rand.Rand) []api.Step {
	var l []api.Step
	for range r.Intn(6) {
		l = append(l, randomStep(r))
	}
	if r.Intn(4) == 0 {
		l = append(l, api.Step{Kind: api.StepPut, Dead: true, Value: []byte("v")}) // what is refused is not changed either
	}
	return l
}

// TestP1709Handed: what is handed to Print and to PrintAnswers is not changed, and not kept.
func TestP1709Handed(t *testing.T) {
	for seed := range int64(300) {
		r := rand.New(rand.NewSource(seed))
		steps, answers := randomSteps(r), some(r, func() api.Answer { return randomAnswer(r) })
		wantText, wantErr := Print(three(), steps)
		want := PrintAnswers(answers)
		l, a := roomy(reflect.ValueOf(steps)), roomy(reflect.ValueOf(answers))
		was := shown(l) + shown(a)
		text, err := Print(three(), l.Interface().([]api.Step))
		told := PrintAnswers(a.Interface().([]api.Answer))
		if shown(l)+shown(a) != was {
			t.Fatalf("changed: %s; it was %s", shown(l)+shown(a), was)
		}
		text2, told2 := string([]byte(text)), string([]byte(told))
		spoil(l)
		spoil(a)
		if text != wantText || err != wantErr || told != want || text != text2 || told != told2 {
			t.Fatalf("the text goes with what was handed in: %q, %d, %q; want %q, %d, %q", text, err, told, wantText, wantErr, want)
		}
	}
}

// TestP1709NoTwoShare: each value that was read is written over, and what is beyond its end: no other one changes, nor what is read again.
func TestP1709NoTwoShare(t *testing.T) {
	text := head
	for _, x := range samples() {
		text += x.line + "\n" + x.line + "\n"
	}
	for range 3 {
		_, l, _, _, _ := Parse(text)
		_, again, _, _, _ := Parse(text)
		for i, s := range l {
			want := roomy(reflect.ValueOf(l)).Interface().([]api.Step)
			for j := range s.Value[:cap(s.Value)] {
				s.Value[:cap(s.Value)][j] = '!'
			}
			want[i].Value = slices.Repeat([]byte("!"), len(s.Value))
			if !sameSteps(l, want) {
				t.Fatalf("the value %d written over: %v; want %v", i, l, want)
			}
		}
		spoil(reflect.ValueOf(l))
		for i, s := range again {
			if want := samples()[i/2].step; !sameSteps([]api.Step{s}, []api.Step{want}) {
				t.Fatalf("the other answer goes with it: %v; want %v", s, want)
			}
		}
	}
}

// TestP1709NewMemory: nothing that is told lies in the memory of the text, and no two of the keys and values in the same.
func TestP1709NewMemory(t *testing.T) {
	text := string([]byte(head + "put 0 key value 1\nput 0 key value 1\nread 1 key 1\nclient 1 key2\n"))
	from := uintptr(unsafe.Pointer(unsafe.StringData(text)))
	_, l, _, _, _ := Parse(text)
	type piece struct{ from, to uintptr }
	all := []piece{{from, from + uintptr(len(text))}}
	for _, s := range l {
		at := uintptr(unsafe.Pointer(unsafe.StringData(s.Key)))
		all = append(all, piece{at, at + uintptr(len(s.Key))})
		if len(s.Value) > 0 {
			at := uintptr(unsafe.Pointer(unsafe.SliceData(s.Value)))
			all = append(all, piece{at, at + uintptr(cap(s.Value))})
		}
	}
	if len(all) != 7 {
		t.Fatalf("%d pieces", len(all))
	}
	slices.SortFunc(all, func(a, b piece) int { return int(a.from) - int(b.from) })
	for i := 1; i < len(all); i++ {
		if all[i-1].to > all[i].from {
			t.Errorf("%v and %v share memory", all[i-1], all[i])
		}
	}
}
