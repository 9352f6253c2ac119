package rookery

import (
	"math/rand"
	"strconv"
	"strings"
	"testing"

	"rookery/api"
	"rookery/cluster"
	"rookery/script"
)

func wantPlay(t *testing.T, text, want string) {
	t.Helper()
	if got := Play(text); got != want {
		t.Errorf("Play(%.400s):\n%.400s; want\n%.400s", text, got, want)
	}
}

// TestP1801Answers: a script's answers as text, each with its number and its error.
func TestP1801Answers(t *testing.T) {
	wantPlay(t, three+"\n", "")
	wantPlay(t, three+"\nput 1 k v 1\n", "1 0\ncall 1\ndone 1 0\nwrite 1 1 k value v -\n")
	wantPlay(t, "# a Put that lasts at both, and one over it\n\n"+three+"\n"+rows("put 1 k v 2; deliver 0; deliver 0; get 2 k 1; del 2 k 1 from 2; put 0 k v 1; see 2; client 9 k"),
		"1 0\ncall 1\n"+
			"2 0\n"+
			"3 0\ndone 1 0\nwrite 1 1 k value v -\n"+
			"4 0\ncall 2\ndone 2 0\nwrite 1 1 k value v -\ntoken 1:1\n"+
			"5 0\ncall 3\ndone 3 0\nwrite 2 1 k dead 1:1\n"+
			"6 93\n"+
			"7 0\nup 1\nsibling 2 1 k dead 1:1\nclock 0 1:1,2:1\ntimer 20 3 1 3\ntimer 30 1 3 0\ntimer 50 2 2 0\n"+
			"8 161\n")
}

// TestP1801NoScript: a text that can't be read tells the error and the place.
func TestP1801NoScript(t *testing.T) {
	wantPlay(t, "", "error 170 line 1 column 1\n")
	wantPlay(t, "# only this\n", "error 170 line 2 column 1\n")
	wantPlay(t, "node 3", "error 170 line 1 column 5\n")
	wantPlay(t, "\x00nonsense", "error 170 line 1 column 1\n")
	wantPlay(t, three, "error 170 line 1 column 75\n")
	wantPlay(t, three+"\n"+rows("see 0; get 0 k 1 from 2"), "error 170 line 3 column 11\n")
	wantPlay(t, three+"\n\n\nput 0 %61 v 1\n", "error 170 line 4 column 9\n")
}

// TestP1801Limits: at a limit all is well; one past it is ErrLong, at no place.
func TestP1801Limits(t *testing.T) {
	bags := strings.Repeat("bag\n", api.MaxSteps)
	var want strings.Builder
	for i := range api.MaxSteps {
		want.WriteString(strconv.Itoa(i+1) + " 0\n")
	}
	wantPlay(t, three+"\n"+bags, want.String())
	wantPlay(t, three+"\n"+bags+"bag\n", "error 2 line 0 column 0\n")
	wantPlay(t, three+"\n"+bags+"bag\nbags\n", "error 170 line 10003 column 4\n")
	text := three + "\nbag\n#"
	text += strings.Repeat("x", api.MaxText-len(text)-1) + "\n"
	wantPlay(t, text, "1 0\n")
	wantPlay(t, text+"\n", "error 2 line 0 column 0\n")
	wantPlay(t, text+"?", "error 2 line 0 column 0\n")
}

// TestP1801WrongConfig: a config that is not right is no fault of the text: it tells the error alone, and that only where the text can be read.
func TestP1801WrongConfig(t *testing.T) {
	for _, turn := range []string{"nodes 0", "nodes 9", "prefer 0", "prefer 4", "ranges 17", "siblings 9", "gap 65", "count 1048577", "keys 0", "hints -1", "bag 257", "bag 9223372036854775807"} {
		word, _, _ := strings.Cut(turn, " ")
		old := strings.Fields(three[strings.Index(three, word):])
		config := strings.Replace(three, old[0]+" "+old[1], turn, 1)
		wantPlay(t, config+"\n", "error 1\n")
		wantPlay(t, config+"\n"+rows("bag; see 0"), "error 1\n")
		wantPlay(t, config+"\nbags\n", "error 170 line 2 column 4\n")
		wantPlay(t, config+"\n"+strings.Repeat("bag\n", api.MaxSteps+1), "error 2 line 0 column 0\n")
	}
}

// TestP1801Model: of any script Play tells the answers that Run gives its steps.
func TestP1801Model(t *testing.T) {
	for seed := range int64(60) {
		r := rand.New(rand.NewSource(seed))
		c := anyConfig(r)
		steps := madeUp(r, c, 80)
		text, err := script.Print(c, steps)
		if err != api.OK {
			t.Fatalf("seed %d: Print: %d", seed, err)
		}
		var answers []api.Answer
		all, _ := cluster.New(c)
		for _, s := range steps {
			answers = append(answers, all.Do(s))
		}
		wantPlay(t, text, script.PrintAnswers(answers))
		if t.Failed() {
			t.Fatalf("seed %d", seed)
		}
	}
}
