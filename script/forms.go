package script

import (
	"strings"

	"rookery/api"
)

// form is how a step's line is written: its first word, and behind it the fields that it must tell, and those that it may, each by its sign.
type form struct {
	word         string
	kind         int
	dead         bool
	fields, more string
}

// The signs of a step's fields: N node, K key, V value, Q quorum, I and J, C client, S sloppy, F from.
const allFields = "NKVQIJCSF"

var forms = [...]form{
	{"put", api.StepPut, false, "NKVQ", "SF"},
	{"del", api.StepPut, true, "NKQ", "SF"},
	{"get", api.StepGet, false, "NKQ", "S"},
	{"deliver", api.StepDeliver, false, "I", ""},
	{"drop", api.StepDrop, false, "I", ""},
	{"double", api.StepDouble, false, "I", ""},
	{"move", api.StepMove, false, "IJ", ""},
	{"fire", api.StepFire, false, "NI", ""},
	{"crash", api.StepCrash, false, "N", ""},
	{"restart", api.StepRestart, false, "N", ""},
	{"see", api.StepSee, false, "N", ""},
	{"image", api.StepImage, false, "N", ""},
	{"arm", api.StepArm, false, "NIJ", ""},
	{"bag", api.StepBag, false, "", ""},
	{"write", api.StepWrite, false, "CKVQ", ""},
	{"wipe", api.StepWrite, true, "CKQ", ""},
	{"read", api.StepRead, false, "CKQ", ""},
	{"client", api.StepClient, false, "CK", ""},
}

// formOf tells how a step is written; none is, of which its line would not tell all.
func formOf(s api.Step) (form, bool) {
	for _, f := range forms {
		if f.kind == s.Kind && f.dead == s.Dead {
			return f, f.tellsAll(s)
		}
	}
	return form{}, false
}

func (f form) tellsAll(s api.Step) bool {
	for _, sign := range allFields {
		if !strings.ContainsRune(f.fields+f.more, sign) && !isZero(s, sign) {
			return false
		}
	}
	return true
}

func isZero(s api.Step, sign rune) bool {
	switch sign {
	case 'K':
		return s.Key == ""
	case 'V':
		return len(s.Value) == 0
	case 'S':
		return !s.Sloppy
	}
	return *numberAt(&s, sign) == 0
}

// numberAt tells where a step has the number of a sign.
func numberAt(s *api.Step, sign rune) *int {
	switch sign {
	case 'N':
		return &s.Node
	case 'Q':
		return &s.Quorum
	case 'I':
		return &s.I
	case 'J':
		return &s.J
	case 'C':
		return &s.Client
	}
	return &s.From
}

// The words of the config's line, each ahead of its number.
var configWords = [9]string{"nodes", "prefer", "ranges", "siblings", "gap", "count", "keys", "hints", "bag"}

// configNumbers tells where a config has its numbers, in the order of their words.
func configNumbers(c *api.Config) [9]*int {
	return [9]*int{&c.Nodes, &c.Prefer, &c.Ranges, &c.Siblings, &c.Gap, &c.Count, &c.Keys, &c.Hints, &c.Bag}
}
