package script

import (
	"bytes"
	"encoding/hex"
	"fmt"
	"math/big"
	"regexp"
	"slices"
	"sort"
	"strings"

	"rookery/api"
)

// A plain reader and a plain printer, straight from the chapter. A line is split at its blanks, and its words held against those of the table. Whether bytes are the beginning of a line is found by trying what might follow them.

const plainConfigLine = "nodes # prefer # ranges # siblings # gap # count # keys # hints # bag #"

// plainForms: the table of P1704, a row for each choice of what may be missing; '#' stands for a number of the config, a capital for a field.
func plainForms() []string {
	var all []string
	for _, x := range []string{
		"put N K V Q [sloppy] [from F]", "del N K Q [sloppy] [from F]", "get N K Q [sloppy]", "deliver I", "drop I", "double I", "move I J", "fire N I",
		"crash N", "restart N", "see N", "image N", "arm N I J", "bag", "write C K V Q", "wipe C K Q", "read C K Q", "client C K",
	} {
		rows := []string{""}
		for _, part := range regexp.MustCompile(`\[[^]]*\]|\S+`).FindAllString(x, -1) {
			var longer []string
			for _, row := range rows {
				longer = append(longer, strings.TrimSpace(row+" "+strings.Trim(part, "[]")))
			}
			if part[0] == '[' {
				longer = append(longer, rows...)
			}
			rows = longer
		}
		all = append(all, rows...)
	}
	return all
}

var plainKinds = map[string]int{
	"put": api.StepPut, "del": api.StepPut, "get": api.StepGet, "deliver": api.StepDeliver, "drop": api.StepDrop, "double": api.StepDouble, "move": api.StepMove, "fire": api.StepFire, "crash": api.StepCrash,
	"restart": api.StepRestart, "see": api.StepSee, "image": api.StepImage, "arm": api.StepArm, "bag": api.StepBag, "write": api.StepWrite, "wipe": api.StepWrite, "read": api.StepRead, "client": api.StepClient,
}

var (
	plainFormsOf  = map[string][][]string{} // by the first word
	plainNumberAs = regexp.MustCompile(`^(0|-?[1-9][0-9]*)$`)
	plainTextAs   = regexp.MustCompile(`^(-|([A-Za-z0-9_.]|%[0-9A-F][0-9A-F])+)$`)
	plainItself   = regexp.MustCompile(`^[A-Za-z0-9_.]$`)
	plainCoded    = regexp.MustCompile(`%..`)
	plainEndings  = map[bool][]string{} // of the config's line, and of a step's
	plainBegun    = map[string]bool{}   // what was found of a piece
)

func init() {
	for _, f := range plainForms() {
		words := strings.Split(f, " ")
		plainFormsOf[words[0]] = append(plainFormsOf[words[0]], words)
	}
	plainEndings[true] = endings(plainConfigLine)
	plainEndings[false] = endings(plainForms()...)
}

// endings: whatever is the beginning of a line of such a form, is brought to its end by one of these: by the shortest end of the word in which it breaks off, and some words behind it.
func endings(forms ...string) []string {
	var all []string
	for _, f := range forms {
		for _, text := range []string{"%60", "%3A", "%5B"} {
			line := regexp.MustCompile(`#|\b[A-Z]\b`).ReplaceAllStringFunc(f, func(sign string) string {
				if sign == "K" || sign == "V" {
					return text
				}
				return "1"
			})
			for i := range len(line) + 1 {
				all = append(all, line[i:])
			}
		}
	}
	slices.Sort(all)
	return slices.Compact(all)
}

func plainNumber(word string) (int, bool) {
	if !plainNumberAs.MatchString(word) {
		return 0, false
	}
	n, ok := new(big.Int).SetString(word, 10)
	if !ok || !n.IsInt64() {
		return 0, false
	}
	return int(n.Int64()), true
}

func plainText(word string) ([]byte, bool) {
	if !plainTextAs.MatchString(word) {
		return nil, false
	}
	if word == "-" {
		return nil, true
	}
	right := true
	means := plainCoded.ReplaceAllStringFunc(word, func(sign string) string {
		b, err := hex.DecodeString(sign[1:])
		right = right && err == nil && !plainItself.Match(b)
		return string(b)
	})
	return []byte(means), right
}

// plainWord holds a word against a word of a form.
func plainWord(s *api.Step, as, word string) bool {
	numbers := map[string]*int{"N": &s.Node, "Q": &s.Quorum, "F": &s.From, "I": &s.I, "J": &s.J, "C": &s.Client}
	if to := numbers[as]; to != nil {
		n, ok := plainNumber(word)
		*to = n
		return ok && (as != "F" || n != 0)
	}
	switch as {
	case "K":
		b, ok := plainText(word)
		s.Key = string(b)
		return ok
	case "V":
		b, ok := plainText(word)
		s.Value = b
		return ok
	}
	return as == word
}

// plainStep reads a line without its end.
func plainStep(line string) (api.Step, bool) {
	words := strings.Split(line, " ")
next:
	for _, f := range plainFormsOf[words[0]] {
		if len(f) != len(words) {
			continue
		}
		s := api.Step{Kind: plainKinds[f[0]], Dead: f[0] == "del" || f[0] == "wipe", Sloppy: slices.Contains(f, "sloppy")}
		for i, word := range words {
			if !plainWord(&s, f[i], word) {
				continue next
			}
		}
		return s, true
	}
	return api.Step{}, false
}

func plainConfig(line string) (api.Config, bool) {
	form, words := strings.Split(plainConfigLine, " "), strings.Split(line, " ")
	if len(words) != len(form) {
		return api.Config{}, false
	}
	var l []int
	for i, word := range words {
		if form[i] != "#" {
			if word != form[i] {
				return api.Config{}, false
			}
			continue
		}
		n, ok := plainNumber(word)
		if !ok {
			return api.Config{}, false
		}
		l = append(l, n)
	}
	return api.Config{Nodes: l[0], Prefer: l[1], Ranges: l[2], Siblings: l[3], Gap: l[4], Count: l[5], Keys: l[6], Hints: l[7], Bag: l[8]}, true
}

func plainIsLine(line string, config bool) bool {
	ok := false
	if config {
		_, ok = plainConfig(line)
	} else {
		_, ok = plainStep(line)
	}
	return ok
}

// plainBegins tells whether a piece of a line may become one that means something.
func plainBegins(piece string, config bool) bool {
	name := fmt.Sprint(config, piece)
	found, ok := plainBegun[name]
	if !ok {
		found = slices.ContainsFunc(plainEndings[config], func(end string) bool { return plainIsLine(piece+end, config) })
		plainBegun[name] = found
	}
	return found
}

// plainColumn: the first byte of a line behind which it can't become one any more; the line's end (that of the text too) counts as one.
func plainColumn(line string, config bool) int {
	return 1 + sort.Search(len(line), func(n int) bool { return !plainBegins(line[:n+1], config) })
}

// plainParse: Parse, with the errors of the chapter in their order.
func plainParse(text string) (c api.Config, steps []api.Step, line, column int, err api.Errno) {
	if len(text) > api.MaxText {
		return api.Config{}, nil, 0, 0, api.ErrLong
	}
	config := true
	l := strings.Split(text, "\n")
	for i, x := range l[:len(l)-1] {
		if x == "" || x[0] == '#' {
			continue
		}
		if !plainIsLine(x, config) {
			return api.Config{}, nil, i + 1, plainColumn(x, config), api.ErrScript
		}
		if config {
			c, _ = plainConfig(x)
			config = false
			continue
		}
		s, _ := plainStep(x)
		steps = append(steps, s)
	}
	rest := l[len(l)-1]
	switch {
	case rest != "" && rest[0] == '#':
		return api.Config{}, nil, len(l), len(rest) + 1, api.ErrScript
	case rest != "":
		return api.Config{}, nil, len(l), plainColumn(rest, config), api.ErrScript
	case config:
		return api.Config{}, nil, len(l), 1, api.ErrScript
	case len(steps) > api.MaxSteps:
		return api.Config{}, nil, 0, 0, api.ErrLong
	}
	return c, steps, 0, 0, api.OK
}

func spelt(b []byte) string {
	var out bytes.Buffer
	for _, c := range b {
		if plainItself.Match([]byte{c}) {
			out.WriteByte(c)
		} else {
			fmt.Fprintf(&out, "%%%02X", c)
		}
	}
	if out.Len() == 0 {
		return "-"
	}
	return out.String()
}

func plainConfigText(c api.Config) string {
	return fmt.Sprintf(strings.ReplaceAll(plainConfigLine, "#", "%d")+"\n", c.Nodes, c.Prefer, c.Ranges, c.Siblings, c.Gap, c.Count, c.Keys, c.Hints, c.Bag)
}

// plainStepText: the line of a step that has one.
func plainStepText(s api.Step) string {
	more := ""
	if s.Sloppy {
		more += " sloppy"
	}
	if s.From != 0 {
		more += fmt.Sprintf(" from %d", s.From)
	}
	key, value := spelt([]byte(s.Key)), spelt(s.Value)
	switch {
	case s.Kind == api.StepPut && s.Dead:
		return fmt.Sprintf("del %d %s %d%s\n", s.Node, key, s.Quorum, more)
	case s.Kind == api.StepPut:
		return fmt.Sprintf("put %d %s %s %d%s\n", s.Node, key, value, s.Quorum, more)
	case s.Kind == api.StepGet:
		return fmt.Sprintf("get %d %s %d%s\n", s.Node, key, s.Quorum, more)
	case s.Kind == api.StepMove:
		return fmt.Sprintf("move %d %d\n", s.I, s.J)
	case s.Kind == api.StepFire:
		return fmt.Sprintf("fire %d %d\n", s.Node, s.I)
	case s.Kind == api.StepArm:
		return fmt.Sprintf("arm %d %d %d\n", s.Node, s.I, s.J)
	case s.Kind == api.StepBag:
		return "bag\n"
	case s.Kind == api.StepWrite && s.Dead:
		return fmt.Sprintf("wipe %d %s %d\n", s.Client, key, s.Quorum)
	case s.Kind == api.StepWrite:
		return fmt.Sprintf("write %d %s %s %d\n", s.Client, key, value, s.Quorum)
	case s.Kind == api.StepRead:
		return fmt.Sprintf("read %d %s %d\n", s.Client, key, s.Quorum)
	case s.Kind == api.StepClient:
		return fmt.Sprintf("client %d %s\n", s.Client, key)
	case s.Kind == api.StepDeliver || s.Kind == api.StepDrop || s.Kind == api.StepDouble:
		return fmt.Sprintf("%s %d\n", map[int]string{api.StepDeliver: "deliver", api.StepDrop: "drop", api.StepDouble: "double"}[s.Kind], s.I)
	}
	return fmt.Sprintf("%s %d\n", map[int]string{api.StepCrash: "crash", api.StepRestart: "restart", api.StepSee: "see", api.StepImage: "image"}[s.Kind], s.Node)
}
