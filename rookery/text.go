package rookery

import (
	"errors"
	"strconv"

	"rookery/api"
	"rookery/cluster"
	"rookery/script"
)

// misreading is why a text can't be read, and where.
type misreading struct {
	api.Errno
	line, column int
}

func (m misreading) Unwrap() error { return m.Errno }

// playText plays the script that a text means.
func playText(text string) ([]api.Answer, error) {
	c, steps, line, column, err := script.Parse(text)
	if err != api.OK {
		return nil, misreading{Errno: err, line: line, column: column}
	}
	answers, err := cluster.Run(c, steps)
	if err != api.OK {
		return nil, err
	}
	return answers, nil
}

// errorLine tells an error: its number, and its place, if it stands somewhere in the text.
func errorLine(err error) string {
	var number api.Errno
	errors.As(err, &number)
	line := "error " + strconv.Itoa(int(number))
	var place misreading
	if errors.As(err, &place) {
		line += " line " + strconv.Itoa(place.line) + " column " + strconv.Itoa(place.column)
	}
	return line + "\n"
}
