package digest

import (
	"bytes"
	"encoding/binary"
	"testing"
)

// Sums of so many bytes would take long: so what is told of their number is asked here.
func TestEndingTellsHowManyBitsThereAre(t *testing.T) {
	for _, c := range []struct {
		left int
		all  uint64
		size int
	}{
		{0, 0, 64},
		{1, 1, 64},
		{55, 55, 64},
		{56, 56, 128},
		{63, 63, 128},
		{0, 64, 64},
		{31, 1<<29 - 33, 64},
		{0, 1 << 29, 64},
		{5, 1<<29 + 5, 64},
		{63, 1<<31 - 1, 128},
	} {
		left := bytes.Repeat([]byte{7}, c.left)
		want := append(bytes.Clone(left), 0x80)
		want = append(want, make([]byte, c.size-8-len(want))...)
		want = binary.BigEndian.AppendUint64(want, 8*c.all)
		if got := ending(left, c.all); !bytes.Equal(got, want) {
			t.Errorf("P2.1: the end of %d bytes: % x; want % x", c.all, got, want)
		}
	}
}
