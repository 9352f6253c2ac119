package wire

import (
	"slices"

	"rookery/api"
	"rookery/dotset"
)

// fields: which fields a kind of message names. All kinds have theirs in one order: the order of these.
type fields uint

const (
	hasCall fields = 1 << iota
	hasOwner
	hasRange
	hasKey
	hasDot
	hasSet
	hasOne // just one write
	hasWrites
)

func (f fields) name(field fields) bool { return f&field != 0 }

// fieldsOf tells the fields of a kind; none, if there is no such kind.
func fieldsOf(kind int) fields {
	var f fields
	switch kind {
	case api.MsgFound:
		f |= hasWrites
		fallthrough
	case api.MsgSeek:
		f |= hasKey
		fallthrough
	case api.MsgStored:
		f |= hasCall | hasOwner
	case api.MsgTell:
		f |= hasSet | hasWrites
		fallthrough
	case api.MsgAsk:
		f |= hasCall | hasKey
	case api.MsgKeep:
		f |= hasOwner
		fallthrough
	case api.MsgStore:
		f |= hasCall
		fallthrough
	case api.MsgBack:
		f |= hasOne
	case api.MsgShip:
		f |= hasWrites
		fallthrough
	case api.MsgClock:
		f |= hasRange | hasSet
	case api.MsgTook:
		f |= hasKey | hasDot
	}
	return f
}

// mostWrites tells how many writes a message of a kind that names them may have.
func mostWrites(kind int) int {
	switch kind {
	case api.MsgTell:
		return api.MaxSiblings
	case api.MsgFound:
		return api.MaxHints
	case api.MsgShip:
		return api.MaxWrites
	}
	return 1
}

// silent tells whether all fields of a message beside those named are zero.
func silent(m api.Msg, has fields) bool {
	return (has.name(hasCall) || m.Call == 0) &&
		(has.name(hasOwner) || m.Owner == 0) &&
		(has.name(hasRange) || m.Range == 0) &&
		(has.name(hasKey) || m.Key == "") &&
		(has.name(hasDot) || m.Dot == api.Dot{}) &&
		(has.name(hasSet) || len(m.Set) == 0) &&
		(has.name(hasOne|hasWrites) || len(m.Writes) == 0)
}

// numbersRight looks at every kind's numbers: where one is not named it is 0, and that is right.
func numbersRight(m api.Msg) bool {
	return isNode(m.From) && isNode(m.To) &&
		within(m.Call, 0, api.MaxCalls) && isNode(m.Owner) && within(m.Range, 0, api.MaxRanges-1)
}

// listsRight looks at what 0 or nothing is not right for, if it is named, and at the lists.
func listsRight(m api.Msg, has fields) bool {
	return (!has.name(hasKey) || isKey(m.Key)) &&
		(!has.name(hasDot) || isDot(m.Dot)) &&
		(!has.name(hasOne) || len(m.Writes) == 1) &&
		len(m.Writes) <= mostWrites(m.Kind) &&
		isSet(m.Set) && (m.Kind != api.MsgTell || !hasBits(m.Set)) &&
		areWrites(m.Writes, m.Key)
}

// areWrites tells whether all are good, by rising dots, and of the key, if it is not empty.
func areWrites(list []api.Write, key string) bool {
	var ahead api.Dot
	for _, w := range list {
		if !isWrite(w) || !rises(ahead, w.Dot) || key != "" && w.Key != key {
			return false
		}
		ahead = w.Dot
	}
	return true
}

func isWrite(w api.Write) bool {
	return isDot(w.Dot) && isKey(w.Key) &&
		len(w.Value) <= api.MaxValue && !(w.Dead && len(w.Value) > 0) &&
		isSet(w.Ctx) && !dotset.Has(w.Ctx, w.Dot)
}

func isSet(s []api.Span) bool { return dotset.Check(s, api.MaxGap) == api.OK }

func isKey(key string) bool { return within(len(key), 1, api.MaxKey) }

func isDot(d api.Dot) bool { return isNode(d.Node) && within(d.Count, 1, api.MaxCount) }

func isNode(node int) bool { return within(node, 0, api.MaxNodes-1) }

func within(n, least, most int) bool { return n >= least && n <= most }

// rises tells whether d stands behind another dot. Behind the zero one, which is none, every dot does.
func rises(ahead, d api.Dot) bool {
	return d.Node > ahead.Node || d.Node == ahead.Node && d.Count > ahead.Count
}

func hasBits(s []api.Span) bool {
	return slices.ContainsFunc(s, func(x api.Span) bool { return x.Bits != 0 })
}
