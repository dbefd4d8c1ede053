package record_test

import (
	"bytes"
	"crypto/sha256"
	"encoding/binary"
	"slices"
	"strings"
	"sync"
	"testing"

	"rick/api"
	"rick/disk"
	"rick/record"
)

// next answers a number that is scattered over all bits, the same ones in each run.
func next(state *uint64) uint64 {
	*state += 0x9e3779b97f4a7c15
	v := *state
	v = (v ^ v>>30) * 0xbf58476d1ce4e5b9
	v = (v ^ v>>27) * 0x94d049bb133111eb
	return v ^ v>>31
}

// scattered answers n bytes that hang on state.
func scattered(n int, state *uint64) []byte {
	b := make([]byte, n)
	for i := range b {
		b[i] = byte(next(state))
	}
	return b
}

// summed answers the sum of b by another SHA-256 than the program's.
func summed(b []byte) uint32 {
	k := sha256.Sum256(b)
	return binary.LittleEndian.Uint32(k[:4])
}

// head answers what stands ahead of a record of which these are told.
func head(size, sum uint32) []byte {
	b := binary.LittleEndian.AppendUint32(nil, size)
	return binary.LittleEndian.AppendUint32(b, sum)
}

// framed answers b as it stands in a file.
func framed(b []byte) []byte {
	return append(head(uint32(len(b)), summed(b)), b...)
}

// fileOf answers the Frames of all records, and where each of them ends (0 first).
func fileOf(records ...[]byte) ([]byte, []int) {
	var file []byte
	ends := []int{0}
	for _, r := range records {
		file = append(file, framed(r)...)
		ends = append(ends, len(file))
	}
	return file, ends
}

// scans fails unless Scan of file tells these records, and so many bytes.
func scans(t *testing.T, what string, file []byte, want [][]byte, taken int) {
	t.Helper()
	got, n := record.Scan(file)
	if n != taken || len(got) != len(want) {
		t.Errorf("%s: %d records, %d bytes; want %d, %d", what, len(got), n, len(want), taken)
		return
	}
	for i := range want {
		if !bytes.Equal(got[i], want[i]) {
			t.Errorf("%s: the record %d has %d bytes: % x ..; want %d", what, i, len(got[i]), got[i][:min(len(got[i]), 12)], len(want[i]))
		}
	}
}

func TestTheDocumentsExample(t *testing.T) {
	scans(t, "Example 1", append(record.Frame([]byte("a")), 7), [][]byte{[]byte("a")}, 9)
}

func TestSumOfKnownTexts(t *testing.T) {
	for _, c := range []struct {
		text string
		want uint32
	}{
		{"", 0x42c4b0e3},
		{"abc", 0xbf1678ba},
		{"abcdbcdecdefdefgefghfghighijhijkijkljklmklmnlmnomnopnopq", 0x616a8d24},
		{strings.Repeat("a", 1_000_000), 0x5c6ec7cd},
	} {
		if got := record.Sum([]byte(c.text)); got != c.want {
			t.Errorf("P4.1: Sum of %d bytes: %08x; want %08x", len(c.text), got, c.want)
		}
	}
	if record.Sum(nil) != record.Sum([]byte{}) {
		t.Error("R3: Sum of nil and of an empty list")
	}
}

func TestSumAndFrameOfManyLengths(t *testing.T) {
	state := uint64(1)
	lengths := []int{1_000, 4_095, 4_096, 65_535, 65_536, api.MaxRecord - 1, api.MaxRecord, api.MaxRecord + 1, api.MaxDisk, 1<<24 + 3}
	for n := range 300 {
		lengths = append(lengths, n)
	}
	for _, n := range lengths {
		b := scattered(n, &state)
		if got := record.Sum(b); got != summed(b) {
			t.Errorf("P4.1: Sum of %d bytes: %08x; want %08x", n, got, summed(b))
		}
		if got := record.Frame(b); !bytes.Equal(got, framed(b)) {
			t.Errorf("P4.1: Frame of %d bytes: % x ..; want % x ..", n, got[:min(len(got), 12)], framed(b)[:8])
		}
	}
}

func TestFrameOfNothing(t *testing.T) {
	want := []byte{0, 0, 0, 0, 0xe3, 0xb0, 0xc4, 0x42}
	for _, b := range [][]byte{nil, {}, []byte("ab")[:0]} {
		if got := record.Frame(b); !bytes.Equal(got, want) {
			t.Errorf("P4.1: Frame of nothing: % x; want % x", got, want)
		}
	}
	scans(t, "P4.2: a record of nothing", want, [][]byte{nil}, 8)
}

func TestScanOfNothing(t *testing.T) {
	for n := range 8 {
		scans(t, "P4.2: fewer than eight bytes", make([]byte, n), nil, 0)
		scans(t, "P4.2: fewer than eight bytes", bytes.Repeat([]byte{0xff}, n), nil, 0)
	}
	scans(t, "P4.2: nil", nil, nil, 0)
	scans(t, "P4.2: zeros, which are not the sum of nothing", make([]byte, 100), nil, 0)
	scans(t, "P4.2: ones", bytes.Repeat([]byte{0xff}, 100), nil, 0)
}

func TestWhatIsFramedIsScanned(t *testing.T) {
	state := uint64(2)
	for range 300 {
		var file []byte
		var records [][]byte
		for range next(&state) % 12 {
			b := scattered(int(next(&state)%40), &state)
			records = append(records, b)
			file = append(file, record.Frame(b)...)
		}
		scans(t, "P4.2: Scan of Frames", file, records, len(file))
	}
}

func TestManyRecordsOfNothing(t *testing.T) {
	file := bytes.Repeat(record.Frame(nil), 20_000)
	scans(t, "P4.2: many records of nothing", file, make([][]byte, 20_000), len(file))
	scans(t, "P4.2: many records of nothing, and more", append(file, 0, 0, 0), make([][]byte, 20_000), len(file))
}

// cutRecords are short ones, empty ones among them, and one in which a Frame stands.
func cutRecords() [][]byte {
	return [][]byte{[]byte("a"), nil, []byte("more of it"), framed([]byte("within")), nil, bytes.Repeat([]byte{0}, 70), []byte("\xff")}
}

// wholeAt answers how many of the records end at n, or ahead of it.
func wholeAt(ends []int, n int) int {
	whole := 0
	for whole+1 < len(ends) && ends[whole+1] <= n {
		whole++
	}
	return whole
}

func TestOfFramesThatAreCutTheWholeOnesAreTold(t *testing.T) {
	records := cutRecords()
	file, ends := fileOf(records...)
	for n := range len(file) + 1 {
		whole := wholeAt(ends, n)
		scans(t, "What follows: cut", slices.Clone(file[:n]), records[:whole], ends[whole])
		scans(t, "P4.2: what is behind the end of the list plays no part", file[:n], records[:whole], ends[whole])
	}
}

func TestScanEndsAtATurnedBit(t *testing.T) {
	records := cutRecords()
	file, ends := fileOf(records...)
	for at := range file {
		for bit := range 8 {
			turned := slices.Clone(file)
			turned[at] ^= 1 << bit
			whole := wholeAt(ends, at)
			scans(t, "P4.2: a bit is turned", turned, records[:whole], ends[whole])
		}
	}
}

func TestScanEndsThoughWholeFramesFollow(t *testing.T) {
	first, last := framed([]byte("first")), framed([]byte("last"))
	want := [][]byte{[]byte("first")}
	for what, torn := range map[string][]byte{
		"a sum that is another one":        append(head(3, summed([]byte("abc"))^1), "abc"...),
		"a sum the other way round":        append(head(3, 0xba7816bf), "abc"...),
		"the sum of fewer bytes":           append(head(3, summed([]byte("ab"))), "abc"...),
		"the sum of more bytes":            append(head(2, summed([]byte("abc"))), "abc"...),
		"a record of nothing, summed as 0": head(0, 0),
		"more bytes than are left":         append(head(40, summed([]byte("abc"))), "abc"...),
		"a byte too much":                  {0},
		"seven bytes":                      make([]byte, 7),
		"far more bytes than are left":     append(head(1<<31, summed(nil)), "abc"...),
		"as many bytes as can be told":     append(head(1<<32-1, summed(nil)), "abc"...),
	} {
		scans(t, "P4.2: "+what, slices.Concat(first, torn, last), want, len(first))
		scans(t, "P4.2: at the end "+what, slices.Concat(first, torn), want, len(first))
		scans(t, "P4.2: at the start "+what, slices.Concat(torn, last), nil, 0)
	}
}

func TestMoreBytesThanAreLeft(t *testing.T) {
	body := []byte("abcdefgh")
	for n := range 20 {
		file := slices.Concat(head(uint32(n), summed(body[:min(n, 8)])), body)
		if n <= 8 {
			scans(t, "P4.2: as many bytes as are left, or fewer", file, [][]byte{body[:n]}, 8+n)
		} else {
			scans(t, "P4.2: more bytes than are left", file, nil, 0)
		}
	}
}

func TestLongRecords(t *testing.T) {
	state := uint64(3)
	all := scattered(3*api.MaxRecord, &state)
	small := []byte("small")
	for _, n := range []int{api.MaxRecord - 1, api.MaxRecord} {
		file, ends := fileOf(small, all[:n], small)
		scans(t, "P4.2: as long as a record may be", file, [][]byte{small, all[:n], small}, ends[3])
	}
	for _, n := range []int{api.MaxRecord + 1, api.MaxRecord + 2, 3 * api.MaxRecord} {
		file, ends := fileOf(small, all[:n], small)
		scans(t, "P4.2: longer than a record may be", file, [][]byte{small}, ends[1])
		if got := record.Frame(all[:n]); !bytes.Equal(got, framed(all[:n])) {
			t.Errorf("P4.1: Frame of %d bytes has %d", n, len(got))
		}
	}
}

func TestWhatIsHandedInIsNotChanged(t *testing.T) {
	state := uint64(4)
	b := scattered(50, &state)
	for what, call := range map[string]func(b []byte){
		"Sum":   func(b []byte) { record.Sum(b) },
		"Frame": func(b []byte) { record.Frame(b) },
		"Scan":  func(b []byte) { record.Scan(b) },
	} {
		for _, given := range [][]byte{b, framed(b), append(framed(b), b...)} {
			room := append(slices.Clone(given), scattered(100, &state)...)
			want := slices.Clone(room)
			call(room[:len(given)])
			if !bytes.Equal(room, want) {
				t.Errorf("R3: %s changes what it is given, or the room behind it", what)
			}
		}
	}
}

func TestFrameIsNewMemory(t *testing.T) {
	b := append(make([]byte, 0, 100), "abc"...)
	one, other := record.Frame(b), record.Frame(b)
	clear(one)
	clear(one[:cap(one)])
	if string(b) != "abc" || !bytes.Equal(other, framed([]byte("abc"))) {
		t.Errorf("R3: who writes into a Frame changes %q, %q", b, other)
	}
	clear(b)
	if !bytes.Equal(other, framed([]byte("abc"))) {
		t.Errorf("R3: a Frame shares with what was handed in: %q", other)
	}
}

func TestRecordsAreNewMemory(t *testing.T) {
	records := [][]byte{[]byte("first"), []byte("second"), nil, []byte("third")}
	file, ends := fileOf(records...)
	given := slices.Clone(file)
	got, _ := record.Scan(given)
	for i := range got {
		clear(got[i][:cap(got[i])])
		got[i] = append(got[i], "more"...)
		if !bytes.Equal(given, file) {
			t.Fatalf("R3: who writes into the record %d changes what was handed in", i)
		}
		for j := i + 1; j < len(got); j++ {
			if !bytes.Equal(got[j], records[j]) {
				t.Errorf("R3: who writes into the record %d changes the record %d", i, j)
			}
		}
	}
	kept, n := record.Scan(given)
	clear(given)
	for i, r := range kept {
		if n != ends[len(records)] || !bytes.Equal(r, records[i]) {
			t.Errorf("R3: the record %d shares with what was handed in: %q", i, r)
		}
	}
}

func TestCallsAtOnceHangOnNoOther(t *testing.T) {
	var files [16][]byte
	var want [16][][]byte
	state := uint64(5)
	for i := range files {
		for range 20 + i {
			want[i] = append(want[i], scattered(30+i, &state))
		}
		files[i], _ = fileOf(want[i]...)
	}
	var all sync.WaitGroup
	for i := range files {
		all.Go(func() {
			for range 20 {
				scans(t, "R2: Scan beside others", files[i], want[i], len(files[i]))
				if !bytes.Equal(record.Frame(want[i][0]), framed(want[i][0])) {
					t.Error("R2: Frame beside others")
				}
			}
		})
	}
	all.Wait()
}

func TestWhatACrashTearsIsNotTold(t *testing.T) {
	d := disk.New(100)
	whole, torn := record.Frame([]byte("whole")), record.Frame([]byte("torn"))
	if d.Append(api.Meta, whole) != api.OK || d.Sync(api.Meta) != api.OK || d.Append(api.Meta, torn) != api.OK {
		t.Fatal("the disk takes no records")
	}
	for keep := range len(torn) + 1 {
		crashed := d.Fork()
		crashed.Arm(0, []int{0, keep})
		b, e := crashed.Restart().Read(api.Meta)
		if e != api.OK {
			t.Fatalf("a disk that is restarted: error %d", e)
		}
		want := [][]byte{[]byte("whole")}
		if keep == len(torn) {
			want = append(want, []byte("torn"))
		}
		got, n := record.Scan(b)
		if len(got) != len(want) || n != len(whole)+(len(want)-1)*len(torn) {
			t.Errorf("What follows: %d bytes of a record that was torn: %d records, %d bytes", keep, len(got), n)
		}
	}
}
