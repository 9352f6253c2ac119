package fsck

import (
	"sync"

	"rookery/api"
	"rookery/page"
	"rookery/right"
	"rookery/root"
)

// endHints is the first page behind those of hints: no node has one from there on.
const endHints = api.FirstHint + api.MaxHints

// sheet is a page of an image by itself: what it says, whatever other pages say.
type sheet struct {
	number int
	kind   int // as page has it; 0: it isn't readable, and there is nothing below but why
	why    api.Finding
	gen    int
	clocks []api.Clock
	owner  int
	key    string
	rng    int // of the key
	writes []entry
}

// entry is a write of a sheet.
type entry struct {
	api.Write
	right bool
}

// sheetsOf tells the pages that the root that counts names, by rising numbers; false, if no root is good.
func sheetsOf(image []byte, n right.Node) ([]sheet, bool) {
	r, good := root.Counting(rootSectors(image))
	var numbers []int
	for i := range api.Pages {
		if r.Has(i) {
			numbers = append(numbers, i)
		}
	}
	sheets := make([]sheet, len(numbers))
	sideBySide(len(sheets), func(i int) {
		sheets[i] = sheetOf(numbers[i], slotBytes(image, r.Slot(numbers[i])), n)
	})
	return sheets, good
}

// sideBySide does the work of each number below many in a goroutine of its own, and answers when all have ended. The works write nothing in common, so that their order is not to be seen.
func sideBySide(many int, work func(i int)) {
	var all sync.WaitGroup
	for i := range many {
		all.Add(1)
		go func() {
			defer all.Done()
			work(i)
		}()
	}
	all.Wait()
}

func rootSectors(image []byte) [root.Roots][]byte {
	var sectors [root.Roots][]byte
	for i := range sectors {
		sectors[i] = image[i*api.SectorSize : (i+1)*api.SectorSize]
	}
	return sectors
}

func slotBytes(image []byte, slot int) []byte {
	at := root.FirstSector(slot) * api.SectorSize
	return image[at : at+api.PageSize]
}

func sheetOf(number int, b []byte, n right.Node) sheet {
	kind, at, err := page.Check(b)
	if err != api.OK {
		return sheet{number: number, why: api.Finding{Kind: FindPage, Page: number, At: at}}
	}
	if kind != kindAt(number) {
		return sheet{number: number, why: api.Finding{Kind: FindKind, Page: number}}
	}
	v, _ := page.Open(b)
	if kind == page.KindClocks {
		return sheet{number: number, kind: kind, gen: v.Gen(), clocks: clocksOf(v)}
	}
	key := string(v.Key())
	return sheet{number: number, kind: kind, owner: v.Owner(), key: key, rng: n.Ring.Range(key), writes: entriesOf(v, n.Config)}
}

// kindAt tells which kind a page of this number is; 0, if there is none of that number.
func kindAt(number int) int {
	switch {
	case number < api.FirstKey:
		return page.KindClocks
	case number < api.FirstHint:
		return page.KindKey
	case number < endHints:
		return page.KindHint
	}
	return 0
}

func clocksOf(v *page.View) []api.Clock {
	list := make([]api.Clock, v.Len())
	for i := range list {
		list[i], _ = v.Clock(i)
	}
	return list
}

func entriesOf(v *page.View, c api.Config) []entry {
	list := make([]entry, v.Len())
	for i := range list {
		w, _ := v.Write(i)
		list[i] = entry{Write: w, right: right.Write(c, w)}
	}
	return list
}
