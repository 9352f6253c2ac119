package ring

// The numbers that Hash begins with and multiplies by.
const (
	hashStart = 2166136261
	hashByte  = 16777619
	hashLast  = 2246822519
)

// Hash tells the place of bytes on the circle.
func Hash(b []byte) uint32 {
	h := uint32(hashStart)
	for _, x := range b {
		h = (h ^ uint32(x)) * hashByte
	}
	h = (h ^ h>>15) * hashLast
	return h ^ h>>13
}
