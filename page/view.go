package page

import "rookery/api"

// View is a look at a page's own bytes. It keeps nothing beside them: each call reads the page as it is then, as Check does, so that whatever has been written into it leads none outside.
type View struct{ page []byte }

// Open makes a view of a page; nothing is copied.
func Open(b []byte) (*View, api.Errno) {
	if _, _, err := Check(b); err != api.OK {
		return nil, err
	}
	return &View{b}, api.OK
}

// Kind tells the page's kind.
func (v *View) Kind() int { return v.head().kind }

// Len tells how many writes, or clocks, it has.
func (v *View) Len() int { return v.head().many }

// Key tells the key: the page's own bytes.
func (v *View) Key() []byte { return v.head().key }

// Value tells a write's value: the page's own bytes.
func (v *View) Value(i int) ([]byte, api.Errno) {
	_, w, err := v.write(i)
	return w.value, err
}

// Write tells a write, in new memory.
func (v *View) Write(i int) (api.Write, api.Errno) {
	key, w, err := v.write(i)
	if err != api.OK {
		return api.Write{}, err
	}
	value := append([]byte(nil), w.value...)
	return api.Write{Dot: w.dot, Key: string(key), Dead: w.dead, Value: value, Ctx: w.ctx.list()}, api.OK
}

// Clock tells a clock, in new memory.
func (v *View) Clock(i int) (api.Clock, api.Errno) {
	r := reader{page: v.page}
	h := r.head()
	if h.kind != KindClocks || !within(i, 0, h.many-1) {
		return api.Clock{}, api.ErrArg
	}
	at, s := r.clocks(i + 1)
	if r.wrong {
		return api.Clock{}, api.ErrPage
	}
	return api.Clock{Range: at, Set: s.list()}, api.OK
}

// Gen tells the page of clocks' number.
func (v *View) Gen() int { return v.head().gen }

// Owner tells a hint's owner.
func (v *View) Owner() int { return v.head().owner }

func (v *View) head() head {
	r := reader{page: v.page}
	return r.head()
}

// write tells the page's key and its i-th write.
func (v *View) write(i int) ([]byte, write, api.Errno) {
	r := reader{page: v.page}
	h := r.head()
	if h.kind == KindClocks || !within(i, 0, h.many-1) {
		return nil, write{}, api.ErrArg
	}
	w := r.writes(i + 1)
	if r.wrong {
		return nil, write{}, api.ErrPage
	}
	return h.key, w, api.OK
}
