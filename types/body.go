package types

import "rookery/api"

// body: what a value of one of the types is. It is never changed: what is done to it tells another one, so two values may have one.
type body interface {
	// form tells its bytes, also more than a value may have.
	form() []byte
	// read tells a body of its type, as far as the bytes go: it may be none that is right.
	read(r *reader) body
	// right tells whether it is one that there may be, where its numbers are no greater than their bytes allow.
	right() bool

	add(actor, by int) (body, api.Errno)
	put(actor int, element []byte) (body, api.Errno)
	take(element []byte) (body, api.Errno)
	turn(actor int, on bool) (body, api.Errno)
	write(actor int, text []byte) (body, api.Errno)

	sum() int
	elements() [][]byte
	on() bool
	text() []byte
}

// blank tells the body of a type to which nothing has been done; nil: there is no such type.
func blank(kind int) body {
	switch kind {
	case Counter:
		return counter{}
	case Set:
		return set{}
	case Flag:
		return flag{}
	case Register:
		return register{}
	}
	return nil
}

// merged tells what two bodies of one type come to.
func merged(v, o body) (body, api.Errno) {
	switch mine := v.(type) {
	case counter:
		if theirs, ok := o.(counter); ok {
			return mine.merged(theirs), api.OK
		}
	case set:
		if theirs, ok := o.(set); ok {
			return mine.merged(theirs), api.OK
		}
	case flag:
		if theirs, ok := o.(flag); ok {
			return mine.merged(theirs), api.OK
		}
	case register:
		if theirs, ok := o.(register); ok {
			return mine.merged(theirs), api.OK
		}
	}
	return nil, api.ErrType
}

// other: what each type answers to the calls of the other ones.
type other struct{}

func (other) add(int, int) (body, api.Errno) { return nil, api.ErrType }

func (other) put(int, []byte) (body, api.Errno) { return nil, api.ErrType }

func (other) take([]byte) (body, api.Errno) { return nil, api.ErrType }

func (other) turn(int, bool) (body, api.Errno) { return nil, api.ErrType }

func (other) write(int, []byte) (body, api.Errno) { return nil, api.ErrType }

func (other) sum() int { return 0 }

func (other) elements() [][]byte { return nil }

func (other) on() bool { return false }

func (other) text() []byte { return nil }
