package script

import (
	"iter"

	"rookery/api"
)

// lines tells the lines of a text, each with its number and with its end; at last what stands behind them all, where a script has nothing.
func lines(text string) iter.Seq2[int, string] {
	return func(yield func(int, string) bool) {
		number, begin := 1, 0
		for at, r := range text {
			if r != '\n' {
				continue
			}
			if !yield(number, text[begin:at+1]) {
				return
			}
			number, begin = number+1, at+1
		}
		yield(number, text[begin:])
	}
}

// scan is what the lines of a script have told so far.
type scan struct {
	config  api.Config
	steps   []api.Step
	further bool // the config is read: what comes are steps
}

// read takes one line; where it is none of a script, it tells the place, from 0 on, that no script has so.
func (s *scan) read(line string) (int, bool) {
	switch {
	case line == "": // the text's end
		return 0, s.further
	case line[0] == '\n' || line[0] == '#':
		return len(line), line[len(line)-1] == '\n'
	}
	r := reader{line: line}
	if !s.further {
		s.config, s.further = r.config()
		return r.at, s.further
	}
	step, ok := r.step()
	s.steps = append(s.steps, step)
	return r.at, ok
}
