package fsck

import (
	"slices"

	"rookery/api"
	"rookery/page"
	"rookery/right"
	"rookery/root"
	"rookery/sibs"
)

// salvaged tells the right writes of all slots, whichever pages they are, or were; of those that are the same the first.
func salvaged(image []byte, n right.Node) []api.Write {
	slots := make([][]api.Write, root.Slots)
	sideBySide(len(slots), func(i int) { slots[i] = writesOf(slotBytes(image, i), n.Config) })
	met := slices.Concat(slots...)
	slices.SortStableFunc(met, byKeys)
	var list []api.Write
	for _, w := range met {
		if !slices.ContainsFunc(list, func(t api.Write) bool { return sibs.Same(t, w) }) {
			list = append(list, w)
		}
	}
	return list
}

// writesOf tells the right writes of bytes that are a page of a key or of a hint.
func writesOf(b []byte, c api.Config) []api.Write {
	v, err := page.Open(b)
	if err != api.OK || v.Kind() == page.KindClocks {
		return nil
	}
	var list []api.Write
	for _, w := range entriesOf(v, c) {
		if w.right {
			list = append(list, w.Write)
		}
	}
	return list
}
