package script

import (
	"strings"

	"rookery/api"
	"rookery/ring"
)

// printer tells lines, one behind the other.
type printer struct{ text strings.Builder }

func (p *printer) line(words row) {
	p.text.WriteString(strings.Join(words, " "))
	p.text.WriteByte('\n')
}

func (p *printer) answer(number int, a api.Answer) {
	p.line(row{}.numbers(number, int(a.Err)))
	if a.Call != 0 {
		p.line(row{"call"}.numbers(a.Call))
	}
	if a.Node != 0 {
		p.line(row{"node"}.numbers(a.Node))
	}
	for _, d := range a.Done {
		p.done(d)
	}
	if a.Sight.Up {
		p.sight(a.Sight)
	}
	for _, l := range a.Bag {
		p.line(row{"letter"}.numbers(l.From, l.To).text(string(l.Data)))
	}
	if len(a.Image) > 0 {
		p.line(row{"image"}.numbers(len(a.Image), int(ring.Hash(a.Image))))
	}
	for _, d := range a.Heads {
		p.line(row{"head"}.numbers(d.Node, d.Count))
	}
}

func (p *printer) done(d api.Done) {
	p.line(row{"done"}.numbers(d.Call, int(d.Err)))
	for _, w := range d.Writes {
		p.line(row{"write"}.write(w))
	}
	if len(d.Token) > 0 {
		p.line(row{"token"}.set(d.Token))
	}
}

func (p *printer) sight(s api.Sight) {
	p.line(row{"up"}.numbers(s.State.Gen))
	for _, key := range s.State.Keys {
		for _, w := range key {
			p.line(row{"sibling"}.write(w))
		}
	}
	for _, c := range s.State.Clocks {
		p.line(row{"clock"}.numbers(c.Range).set(c.Set))
	}
	for _, h := range s.State.Hints {
		p.line(row{"hint"}.numbers(h.Owner).write(h.Write))
	}
	for _, t := range s.Timers {
		p.line(row{"timer"}.numbers(t.Due, t.Number, t.Kind, t.Call))
	}
	if len(s.Calls) > 0 {
		p.line(row{"calls"}.numbers(s.Calls...))
	}
}
