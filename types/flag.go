package types

import "rookery/api"

// flag: how often each actor has switched it on, and which of these times nobody has switched off.
type flag struct {
	other
	counts, tags row
}

func (f flag) form() []byte {
	b := appendRow([]byte{Flag}, f.counts, countBytes)
	return appendRow(b, f.tags, countBytes)
}

func (f flag) read(r *reader) body {
	r.next(1)
	f.counts = r.row(countBytes)
	f.tags = r.row(countBytes)
	return f
}

func (f flag) right() bool { return f.tags.within(f.counts) }

func (f flag) merged(o flag) flag {
	return flag{counts: f.counts.greater(o.counts), tags: mergedTags(f.tags, f.counts, o.tags, o.counts)}
}

func (f flag) turn(actor int, on bool) (body, api.Errno) {
	if !isActor(actor) {
		return nil, api.ErrActor
	}
	if !on {
		return flag{counts: f.counts}, api.OK
	}
	if f.counts[actor] == maxCount {
		return nil, api.ErrCount
	}
	f.counts, f.tags = oneMore(f.counts, actor)
	return f, api.OK
}

func (f flag) on() bool { return f.tags != row{} }

// oneMore tells the counts behind one more doing of an actor, and its tag alone.
func oneMore(counts row, actor int) (row, row) {
	var tags row
	counts[actor]++
	tags[actor] = counts[actor]
	return counts, tags
}

// mergedTags tells which tags of one thing are left of two values, each with its counts from ahead of the merging.
func mergedTags(mine, myCounts, theirs, theirCounts row) row {
	var out row
	for actor := range out {
		// if both stay they are the same: no two numbers are each above what the other's value has reached
		out[actor] = max(staying(mine[actor], theirs[actor], theirCounts[actor]), staying(theirs[actor], mine[actor], myCounts[actor]))
	}
	return out
}

// staying tells an actor's tag, if the other value has it too, or has not reached it; else 0.
func staying(tag, theirs, reached int) int {
	if tag == theirs || tag > reached {
		return tag
	}
	return 0
}
