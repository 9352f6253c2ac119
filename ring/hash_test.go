package ring

import (
	"bytes"
	"testing"
)

// plainHash: P401 word for word, in numbers wide enough that nothing wraps round by itself.
func plainHash(b []byte) uint64 {
	const all = 1 << 32
	h := uint64(2166136261)
	for _, x := range b {
		h = (h ^ uint64(x)) * 16777619 % all
	}
	h = (h ^ h/(1<<15)) * 2246822519 % all
	return h ^ h/(1<<13)
}

func TestP401Hash(t *testing.T) {
	for _, c := range []struct {
		b    string
		want uint32
	}{
		{"", 760700053}, {"a", 3035041849}, {"ab", 1994101313}, {"\xff\x00", 2815855815}, {"\x00", 2614109414},
		{"\x00\x00", 2910591531}, {"\xff", 2808874518}, {"rookery", 3236800840}, {"\xff\xff\x0f", 1595277385},
	} {
		if got := Hash([]byte(c.b)); got != c.want {
			t.Errorf("Hash(%q): %d; want %d", c.b, got, c.want)
		}
	}
	if Hash(nil) != Hash([]byte{}) {
		t.Error("no bytes and nil differ")
	}
}

// TestP401ShortBytes: all texts of one and of two bytes, and runs of each byte.
func TestP401ShortBytes(t *testing.T) {
	check := func(b []byte) {
		if got := uint64(Hash(b)); got != plainHash(b) {
			t.Fatalf("Hash(%v): %d; want %d", b, got, plainHash(b))
		}
	}
	for i := range 256 {
		check([]byte{byte(i)})
		for k := range 256 {
			check([]byte{byte(i), byte(k)})
		}
		check(bytes.Repeat([]byte{byte(i)}, 3+i))
	}
}

// TestP408Bytes: the bytes that Hash is handed stay as they are, spare room included.
func TestP408Bytes(t *testing.T) {
	room := []byte("rookery and more")
	b := room[2:5]
	first := Hash(b)
	if string(room) != "rookery and more" {
		t.Errorf("Hash has changed its bytes: %q", room)
	}
	room[3] = 'x'
	if again := Hash([]byte("oke")); again != first {
		t.Errorf("Hash has kept its bytes: %d, %d", first, again)
	}
}
