package script

import (
	"fmt"
	"math"
	"strings"
	"testing"

	"rookery/api"
)

// TestP1701Lines: which lines there are, what means nothing, and how words stand in a line.
func TestP1701Lines(t *testing.T) {
	bag := api.Step{Kind: api.StepBag}
	wantScript(t, head, three())
	wantScript(t, "\n\n"+head+"\n\n\n", three())
	wantScript(t, "#\n# a\n#bag\n##\n"+head+"#put 0\nbag\n# \n", three(), bag)
	wantScript(t, head+"bag\nbag\n\nbag\n", three(), bag, bag, bag)
	var any []byte // all bytes that a line may have
	for c := range 256 {
		if c != '\n' {
			any = append(any, byte(c))
		}
	}
	wantScript(t, "#"+string(any)+"\n"+head+"#\xe2\x82\n#\xff\nbag\n#\xf0\x9f\n", three(), bag)
	wantPlace(t, "#"+string(any)+"\n\xe2\x82\n", 2, 1)
	for _, c := range []struct {
		text         string
		line, column int
	}{
		{" " + head, 1, 1}, {"\t" + head, 1, 1}, {" #\n" + head, 1, 1}, {" \n" + head, 1, 1}, {"\ufeff" + head, 1, 1}, {"\r\n" + head, 1, 1},
		{head + " bag\n", 2, 1}, {head + "bag \n", 2, 4}, {head + "bag\r\n", 2, 4}, {head + "bag\t\n", 2, 4}, {head + "bag #\n", 2, 4}, {head + " \n", 2, 1}, {head + "\t\n", 2, 1},
		{head + "crash  1\n", 2, 7}, {head + "crash\t1\n", 2, 6}, {head + "crash 1 \n", 2, 8}, {head + "crash\u00a01\n", 2, 6}, {head + "crash\n1\n", 2, 6}, {head + "crash 1 # why\n", 2, 8},
		{head + head, 2, 1}, {"bag\n" + head, 1, 1}, {"crash 1\n" + head, 1, 1}, {"put 0 k v 1\n", 1, 1},
	} {
		wantPlace(t, c.text, c.line, c.column)
	}
}

// TestP1701NoEnd: the last line too has its end.
func TestP1701NoEnd(t *testing.T) {
	wantPlace(t, strings.TrimSuffix(head, "\n"), 1, len(head))
	wantPlace(t, head+"#", 2, 2)
	wantPlace(t, head+"\n# why", 3, 6)
	for _, x := range samples() {
		wantPlace(t, head+x.line, 2, len(x.line)+1)
		wantPlace(t, head+x.line+"\n"+x.line, 3, len(x.line)+1)
	}
}

func TestP1702Numbers(t *testing.T) {
	for _, n := range []int{0, 1, 9, 10, 19, 99, 100, 101, 1 << 20, math.MaxInt32, math.MaxInt32 + 1, math.MaxInt / 10, math.MaxInt/10*10 - 1, math.MaxInt - 1, math.MaxInt, math.MinInt + 1} {
		for _, n := range []int{n, -n} {
			wantScript(t, head+fmt.Sprintf("crash %d\n", n), three(), api.Step{Kind: api.StepCrash, Node: n})
		}
	}
	wantScript(t, head+"crash -9223372036854775808\n", three(), api.Step{Kind: api.StepCrash, Node: math.MinInt})
	for _, c := range []struct {
		word string
		at   int
	}{
		{"00", 2}, {"01", 2}, {"007", 2}, {"-0", 2}, {"-00", 2}, {"-01", 2}, {"--1", 2}, {"-", 2}, {"+1", 1}, {"+", 1}, {"a", 1}, {"1a", 2}, {"0x1", 2}, {"1_0", 2}, {"1.0", 2}, {"1e3", 2}, {"1-", 2}, {"%31", 1}, {"\u0661", 1}, {"1\u0661", 2},
		{"9223372036854775808", 19}, {"9223372036854775809", 19}, {"92233720368547758070", 20}, {"9223372036854775810", 19}, {"9223372036854775900", 19}, {"9300000000000000000", 19}, {"99999999999999999999", 19}, {"10000000000000000000", 20},
		{"-9223372036854775809", 20}, {"-92233720368547758080", 21}, {"-9223372036854775810", 20}, {"-10000000000000000000", 21}, {"18446744073709551616", 20}, {"18446744073709551617", 20}, {"-18446744073709551615", 21},
	} {
		wantPlace(t, head+"crash "+c.word+"\n", 2, 6+c.at)
	}
}

// numberPlaces: lines in which one number stands at each of its places in turn, with all that stands ahead of it.
func numberPlaces() []string {
	var all []string
	for _, line := range append(plainForms(), plainConfigLine) {
		ahead := ""
		for _, sign := range strings.Split(line, " ") {
			switch {
			case sign == "K" || sign == "V":
				sign = "k"
			case len(sign) == 1:
				all = append(all, ahead)
				sign = "1"
			}
			ahead += sign + " "
		}
	}
	return all
}

// TestP1702NumbersEverywhere: at each place where a number may stand, a wrong one is wrong in the same way.
func TestP1702NumbersEverywhere(t *testing.T) {
	for _, ahead := range numberPlaces() {
		before, line := head, 2
		if strings.HasPrefix(ahead, "nodes") {
			before, line = "", 1
		}
		for _, c := range []struct {
			word string
			at   int
		}{
			{"00", 2}, {"-0", 2}, {"--", 2}, {"-\n", 2}, {"\n", 1}, {" 1", 1}, {"x", 1}, {"1x", 2}, {"9223372036854775808", 19}, {"-9223372036854775809", 20}, {"9223372036854775807", 20}, {"-9223372036854775808", 21},
		} {
			if c.word == "00" && strings.HasSuffix(ahead, "from ") {
				c.at = 1
			}
			wantPlace(t, before+ahead+c.word, line, len(ahead)+c.at)
		}
	}
}

// TestP1702TextWords: each byte has one text word.
func TestP1702TextWords(t *testing.T) {
	wantKey := func(word, key string) {
		t.Helper()
		wantScript(t, head+"put 0 "+word+" "+word+" 1\n", three(), api.Step{Kind: api.StepPut, Key: key, Value: []byte(key), Quorum: 1})
	}
	const itself = "abcdefghijklmnopqrstuvwxyzABCDEFGHIJKLMNOPQRSTUVWXYZ0123456789_."
	wantKey(itself, itself)
	wantKey("-", "")
	wantKey("%2D", "-")
	wantKey("%2D%2D", "--")
	wantKey("%25", "%")
	wantKey("%2541", "%41")
	wantKey("%00%FF%0A%20%23", "\x00\xff\n #")
	wantKey("%E2%82%AC", "\u20ac")
	wantKey("a%2Db", "a-b")
	wantKey(strings.Repeat("%0A", 1000), strings.Repeat("\n", 1000)) // a script looks at no length
	for c := range 256 {
		key, coded := string([]byte{byte(c)}), fmt.Sprintf("%%%02X", c)
		if strings.Contains(itself, key) {
			wantKey("x"+key, "x"+key)
			wantPlace(t, head+"get 0 "+coded+" 1\n", 2, 9)
			wantPlace(t, head+"get 0 a"+coded+"b 1\n", 2, 10)
			continue
		}
		wantKey(coded, key)
		wantKey("a"+coded+"Z", "a"+key+"Z")
		if !strings.Contains(" %", key) { // a blank ends a word, and a % begins a sign: any other byte can't stand there
			wantPlace(t, head+"get 0 a"+key+"b 1\n", 2, 8)
			wantPlace(t, head+"get 0 %5B"+key+"b 1\n", 2, 10)
		}
		wantAsPlain(t, head+"get 0 "+key+" 1\n")
	}
}

// TestP1702Coded: behind a % stand two digits, and capital ones, and not those of a byte that means itself.
func TestP1702Coded(t *testing.T) {
	const capital = "0123456789ABCDEF"
	for a := range 256 {
		if !strings.Contains(capital, string([]byte{byte(a)})) {
			wantPlace(t, head+"client 0 %"+string([]byte{byte(a)})+"0\n", 2, 11)
			wantPlace(t, head+"client 0 -%"+string([]byte{byte(a)})+"0\n", 2, 11)
			wantPlace(t, head+"client 0 %E"+string([]byte{byte(a)})+"\n", 2, 12)
		}
	}
	for _, high := range capital { // with each first digit some byte can be told
		wantPlace(t, head+"client 0 %"+string(high), 2, 12)
		wantPlace(t, head+"client 0 %"+string(high)+"\n", 2, 12)
		wantPlace(t, head+"client 0 %"+string(high)+"x", 2, 12)
	}
	wantPlace(t, head+"client 0 %\n", 2, 11)
	wantPlace(t, head+"client 0 %", 2, 11)
	wantPlace(t, head+"client 0 a%", 2, 12)
	wantPlace(t, head+"client 0 -a\n", 2, 11)
	wantPlace(t, head+"client 0 --\n", 2, 11)
	wantPlace(t, head+"client 0 a-\n", 2, 11)
	wantPlace(t, head+"client 0 \n", 2, 10)
	wantPlace(t, head+"put 0 k  1\n", 2, 9)
	wantPlace(t, head+"put 0 k %3\n", 2, 11)
}

// TestP1703Config: nine numbers, any ones, each behind its word.
func TestP1703Config(t *testing.T) {
	wantScript(t, "nodes 1 prefer 2 ranges 3 siblings 4 gap 5 count 6 keys 7 hints 8 bag 9\n", api.Config{Nodes: 1, Prefer: 2, Ranges: 3, Siblings: 4, Gap: 5, Count: 6, Keys: 7, Hints: 8, Bag: 9})
	wantScript(t, "nodes 0 prefer 0 ranges 0 siblings 0 gap 0 count 0 keys 0 hints 0 bag 0\n", api.Config{})
	wantScript(t, "nodes -1 prefer 99 ranges -9223372036854775808 siblings 9223372036854775807 gap -5 count 0 keys -7 hints 800 bag 257\n",
		api.Config{Nodes: -1, Prefer: 99, Ranges: math.MinInt, Siblings: math.MaxInt, Gap: -5, Keys: -7, Hints: 800, Bag: 257})
	words := strings.Split(strings.TrimSuffix(head, "\n"), " ")
	at := 0
	for i, word := range words {
		cut := strings.Join(words[:i], " ")
		if i > 0 { // a config stands on one line
			wantPlace(t, cut+"\n"+strings.Join(words[i:], " ")+"\n", 1, len(cut)+1)
		}
		wantPlace(t, head[:at]+"!"+head[at:], 1, at+1)
		if i%2 == 0 {
			wantPlace(t, head[:at]+strings.ToUpper(word)+head[at+len(word):], 1, at+1)
			wantPlace(t, head[:at+len(word)]+"s"+head[at+len(word):], 1, at+len(word)+1)
		}
		at += len(word) + 1
	}
	wantPlace(t, "prefer 2 nodes 3 ranges 1 siblings 2 gap 4 count 100 keys 2 hints 2 bag 50\n", 1, 1)
	wantPlace(t, "nodes 3 ranges 1 prefer 2 siblings 2 gap 4 count 100 keys 2 hints 2 bag 50\n", 1, 9)
	wantPlace(t, strings.TrimSuffix(head, "\n")+" \n", 1, len(head))
	wantPlace(t, strings.TrimSuffix(head, "\n")+" sloppy\n", 1, len(head))
}

// TestP1704Steps: each line of the table, alone and among the others.
func TestP1704Steps(t *testing.T) {
	text := head
	var all []api.Step
	for _, x := range samples() {
		wantScript(t, head+x.line+"\n", three(), x.step)
		text += x.line + "\n"
		all = append(all, x.step)
	}
	wantScript(t, text, three(), all...)
	if len(plainForms()) != len(samples()) {
		t.Errorf("%d samples of %d forms", len(samples()), len(plainForms()))
	}
}

// TestP1704NoSuchLine: words of one line in another, in another order, twice, or missing.
func TestP1704NoSuchLine(t *testing.T) {
	for _, c := range []struct {
		line string
		at   int
	}{
		{"put 0 k v 1 from 2 sloppy", 19}, {"put 0 k v 1 sloppy sloppy", 20}, {"put 0 k v 1 sloppy from", 24}, {"put 0 k v 1 sloppy from ", 25}, {"put 0 k v 1 from 2 from 3", 19}, {"put 0 k v 1 from 2 ", 19},
		{"put 0 k v 1 ", 13}, {"put 0 k v 1 sloppy ", 20}, {"put 0 k v 1 sloppyy", 19}, {"put 0 k v 1 slop", 17}, {"put 0 k v 1 fro 2", 16}, {"put 0 k v 1 from2", 17}, {"put 0 k v 1 Sloppy", 13}, {"put 0 k v 1 x", 13}, {"put 0 k v 1 sloppy x", 20}, {"put 0 k v 1 sfrom 2", 14},
		{"put 0 k v 1 from 0", 18}, {"put 0 k v 1 from 00", 18}, {"put 0 k v 1 from -0", 19}, {"put 0 k v 1 sloppy from 0", 25}, {"put 0 k v", 10}, {"put 0 k v sloppy", 11}, {"put 0 k", 8}, {"put 0", 6}, {"put", 4}, {"put ", 5}, {"put k 0 v 1", 5},
		{"del 0 k v 1", 9}, {"del 0 k 1 from 0", 16}, {"del 0 k 1 sloppy from 0", 23}, {"del 0 k 1 from 2 sloppy", 17}, {"del 0 k 1 x", 11}, {"del 0 k 1 ", 11}, {"get 0 k 1 from 2", 11}, {"get 0 k 1 sloppy from 2", 17}, {"get 0 k 1 sloppy ", 17}, {"get 0 k 1 ", 11}, {"get 0 k 1 2", 11}, {"get 0 k v 1", 9},
		{"write 0 k v 1 sloppy", 14}, {"write 0 k v 1 from 2", 14}, {"write 0 k 1", 12}, {"wipe 0 k 1 sloppy", 11}, {"wipe 0 k v 1", 10}, {"read 0 k 1 sloppy", 11}, {"read 0 k 1 from 1", 11}, {"client 0 k 1", 11}, {"client 0", 9},
		{"deliver 1 2", 10}, {"drop 1 2", 7}, {"double 1 2", 9}, {"move 1", 7}, {"move 1 2 3", 9}, {"fire 1", 7}, {"fire 1 2 3", 9}, {"crash 1 2", 8}, {"restart 1 2", 10}, {"see 1 2", 6}, {"image 1 2", 8}, {"arm 1 2", 8}, {"arm 1 2 3 4", 10}, {"bag 1", 4}, {"bag ", 4}, {"bags", 4},
		{"d", 2}, {"de", 3}, {"delx 0", 4}, {"deli 1", 5}, {"delive 1", 7}, {"delivers 1", 8}, {"do 1", 3}, {"dx", 2}, {"re 1", 3}, {"res 1", 4}, {"rea 1", 4}, {"reas", 4}, {"wi 1", 3}, {"wr", 3}, {"c 1", 2}, {"cl", 3}, {"cx", 2}, {"b", 2}, {"PUT 0 k v 1", 1}, {"Put", 1}, {"nodes 3", 1}, {"x", 1}, {"0", 1}, {"-", 1},
	} {
		wantPlace(t, head+c.line+"\nbag\n", 2, c.at)
		wantPlace(t, head+"\n#\nbag\n"+c.line+"\nbag\n", 5, c.at)
	}
}

// TestP1705EveryBeginning: a script that breaks off anywhere is wrong at its end, but where it is one already.
func TestP1705EveryBeginning(t *testing.T) {
	text := "\n# why\n" + head
	for _, x := range samples() {
		text += x.line + "\n"
	}
	for n := range len(text) {
		piece := text[:n]
		if strings.HasSuffix(piece, "\n") && strings.Contains(piece, "bag 50\n") {
			if _, _, line, column, err := Parse(piece); line != 0 || column != 0 || err != api.OK {
				t.Errorf("Parse of the first %d bytes: %d, %d, %d", n, line, column, err)
			}
			continue
		}
		wantPlace(t, piece, strings.Count(piece, "\n")+1, n-strings.LastIndex(piece, "\n"))
	}
}

// TestP1705EveryByteChanged: each byte of a line of each form, as another byte, gone, and one more ahead of it: the place that the plain reader finds.
func TestP1705EveryByteChanged(t *testing.T) {
	others := []byte(" \n-%#019aFGfls_\xff")
	for _, x := range append(samples(), sample{line: strings.TrimSuffix(head, "\n")}) {
		before := head
		if x.step.Kind == 0 {
			before = ""
		}
		text := x.line + "\n"
		for at := range text {
			wantAsPlain(t, before+text[:at]+text[at+1:])
			for _, c := range others {
				wantAsPlain(t, before+text[:at]+string([]byte{c})+text[at+1:])
				wantAsPlain(t, before+text[:at]+string([]byte{c})+text[at:])
			}
		}
	}
}

// TestP1705Column: columns are bytes, and lines are counted all.
func TestP1705Column(t *testing.T) {
	wantPlace(t, "#\u20ac\n\n"+head+"#\u20ac", 4, 5)
	wantPlace(t, "#\n\n#\n\n"+head+"#\n\nbag\n\nbug\n", 10, 2)
	wantPlace(t, head+"crash \u20ac\n", 2, 7)
	wantPlace(t, "\n\n\n", 4, 1)
	wantPlace(t, "#\n#", 2, 2)
	wantPlace(t, strings.Repeat("\n", api.MaxText), api.MaxText+1, 1)
	wantPlace(t, strings.Repeat("#", api.MaxText), 1, api.MaxText+1)
}

// TestP1705Limits: at a limit all is well, one past it is refused; and which error goes ahead of which.
func TestP1705Limits(t *testing.T) {
	bags := func(n int) string { return strings.Repeat("bag\n", n) }
	if c, l, line, column, err := Parse(head + bags(api.MaxSteps)); c != three() || len(l) != api.MaxSteps || line != 0 || column != 0 || err != api.OK {
		t.Errorf("the most steps: %v, %d, %d, %d, %d", c, len(l), line, column, err)
	}
	wantLong(t, head+bags(api.MaxSteps+1))
	wantLong(t, head+bags(200000))
	wantPlace(t, head+bags(api.MaxSteps+1)+"x", api.MaxSteps+3, 1)
	wantPlace(t, head+bags(api.MaxSteps+1)+"bag", api.MaxSteps+3, 4)
	wantPlace(t, head+bags(200000)+"bag 1\n", 200002, 4)
	wantScript(t, head+strings.Repeat("\n", api.MaxText-len(head)), three())
	wantScript(t, "#"+strings.Repeat("x", api.MaxText-len(head)-2)+"\n"+head, three())
	wantLong(t, head+strings.Repeat("\n", api.MaxText-len(head)+1))
	wantLong(t, strings.Repeat("x", api.MaxText+1))
	wantPlace(t, strings.Repeat("x", api.MaxText), 1, 1)
	value := strings.Repeat("v", api.MaxText-len(head)-len("put 0 k  1\n"))
	wantScript(t, head+"put 0 k "+value+" 1\n", three(), api.Step{Kind: api.StepPut, Key: "k", Value: []byte(value), Quorum: 1})
}
