package octets_test

import (
	"math"
	"slices"
	"strings"
	"testing"

	"rick/api"
	"rick/octets"
)

// written answers what write leaves in a new Writer.
func written(write func(w *octets.Writer)) []byte {
	w := &octets.Writer{}
	write(w)
	return w.Bytes()
}

func TestNumWritesTheLowestBytesFirst(t *testing.T) {
	const v = 0x8877665544332211
	for _, c := range []struct {
		n    int
		want []byte
	}{
		{math.MinInt, []byte{0x11}},
		{-1, []byte{0x11}},
		{0, []byte{0x11}},
		{1, []byte{0x11}},
		{2, []byte{0x11, 0x22}},
		{3, []byte{0x11, 0x22, 0x33}},
		{4, []byte{0x11, 0x22, 0x33, 0x44}},
		{5, []byte{0x11, 0x22, 0x33, 0x44, 0x55}},
		{6, []byte{0x11, 0x22, 0x33, 0x44, 0x55, 0x66}},
		{7, []byte{0x11, 0x22, 0x33, 0x44, 0x55, 0x66, 0x77}},
		{8, []byte{0x11, 0x22, 0x33, 0x44, 0x55, 0x66, 0x77, 0x88}},
		{9, []byte{0x11, 0x22, 0x33, 0x44, 0x55, 0x66, 0x77, 0x88}},
		{math.MaxInt, []byte{0x11, 0x22, 0x33, 0x44, 0x55, 0x66, 0x77, 0x88}},
	} {
		b := written(func(w *octets.Writer) { w.Num(v, c.n) })
		if !slices.Equal(b, c.want) {
			t.Errorf("P1.1: Num of %d bytes: % x; want % x", c.n, b, c.want)
		}
		fits := uint64(math.MaxUint64) >> (64 - 8*len(c.want))
		if r := octets.Read(append(b, 9)); r.Num(c.n) != v&fits || r.Left() != 1 || r.Err() != api.OK {
			t.Errorf("P1.2: Num of %d bytes: %d left, error %d", c.n, r.Left(), r.Err())
		}
	}
}

func TestNumKeepsEachBit(t *testing.T) {
	for n := 1; n <= 8; n++ {
		for bit := range 64 {
			v := uint64(1) << bit
			want := v
			if bit >= 8*n {
				want = 0
			}
			r := octets.Read(written(func(w *octets.Writer) { w.Num(v, n) }))
			if got := r.Num(n); got != want || r.Err() != api.OK || r.Left() != 0 {
				t.Errorf("P1.2: bit %d in %d bytes: %x; want %x", bit, n, got, want)
			}
		}
	}
}

func TestInt(t *testing.T) {
	for _, c := range []struct {
		v    int
		want []byte
		read int
	}{
		{-1, []byte{0, 0, 0, 0}, -1},
		{0, []byte{1, 0, 0, 0}, 0},
		{1, []byte{2, 0, 0, 0}, 1},
		{254, []byte{255, 0, 0, 0}, 254},
		{255, []byte{0, 1, 0, 0}, 255},
		{1<<31 - 2, []byte{255, 255, 255, 127}, 1<<31 - 2},
		{1<<31 - 1, []byte{0, 0, 0, 128}, 1<<31 - 1},
		{1<<32 - 2, []byte{255, 255, 255, 255}, 1<<32 - 2},
		{1<<32 - 1, []byte{0, 0, 0, 0}, -1},
		{1 << 32, []byte{1, 0, 0, 0}, 0},
		{-2, []byte{255, 255, 255, 255}, 1<<32 - 2},
		{-3, []byte{254, 255, 255, 255}, 1<<32 - 3},
		{math.MaxInt, []byte{0, 0, 0, 0}, -1},
		{math.MinInt, []byte{1, 0, 0, 0}, 0},
		{0x7654321012345677, []byte{0x78, 0x56, 0x34, 0x12}, 0x12345677},
	} {
		b := written(func(w *octets.Writer) { w.Int(c.v) })
		if !slices.Equal(b, c.want) {
			t.Errorf("P1.1: Int(%d): % x; want % x", c.v, b, c.want)
		}
		if r := octets.Read(b); r.Int() != c.read || r.Err() != api.OK || r.Left() != 0 {
			t.Errorf("P1.2: Int of %d, read: error %d, %d left; want %d", c.v, r.Err(), r.Left(), c.read)
		}
	}
}

func TestText(t *testing.T) {
	for _, c := range []struct {
		s    string
		head []byte
	}{
		{"", []byte{1, 0, 0, 0}},
		{"a", []byte{2, 0, 0, 0}},
		{"a\nb\x00\xff", []byte{6, 0, 0, 0}},
		{"\u00e9\u20ac", []byte{6, 0, 0, 0}},
		{strings.Repeat("x", 255), []byte{0, 1, 0, 0}},
		{strings.Repeat("yz", 35_000), []byte{0x71, 0x11, 1, 0}},
	} {
		b := written(func(w *octets.Writer) { w.Text(c.s) })
		if !slices.Equal(b, append(c.head, c.s...)) {
			t.Errorf("P1.1: Text of %d bytes: % x ..", len(c.s), b[:min(len(b), 12)])
		}
		if r := octets.Read(append(b, 7)); r.Text() != c.s || r.Err() != api.OK || r.Left() != 1 {
			t.Errorf("P1.2: Text of %d bytes, read: error %d, %d left", len(c.s), r.Err(), r.Left())
		}
	}
}

func TestBool(t *testing.T) {
	b := written(func(w *octets.Writer) {
		w.Bool(true)
		w.Bool(false)
	})
	if !slices.Equal(b, []byte{1, 0}) {
		t.Errorf("P1.1: Bool of true and of false: % x; want 01 00", b)
	}
	if r := octets.Read(b); !r.Bool() || r.Left() != 1 || r.Bool() || r.Left() != 0 || r.Err() != api.OK {
		t.Errorf("P1.2: Bool: error %d, %d left", r.Err(), r.Left())
	}
}

func TestBoolOfOtherBytesIsErrForm(t *testing.T) {
	for v := 2; v < 256; v++ {
		r := octets.Read([]byte{byte(v), 1})
		if r.Bool() || r.Err() != api.ErrForm || r.Left() != 0 {
			t.Errorf("P1.2: Bool of the byte %d: error %d, %d left; want %d, 0", v, r.Err(), r.Left(), api.ErrForm)
		}
	}
}

func TestTextOfLessThanNothingIsErrForm(t *testing.T) {
	for _, b := range [][]byte{{0, 0, 0, 0}, {0, 0, 0, 0, 'a'}, written(func(w *octets.Writer) { w.Int(-1) })} {
		r := octets.Read(b)
		if s := r.Text(); s != "" || r.Err() != api.ErrForm || r.Left() != 0 {
			t.Errorf("P1.2: Text of % x: %q, error %d, %d left; want nothing, %d, 0", b, s, r.Err(), r.Left(), api.ErrForm)
		}
	}
}

// readers are all ways to read; each answers whether it read the zero value.
func readers() map[string]func(r *octets.Reader) bool {
	return map[string]func(r *octets.Reader) bool{
		"Num":  func(r *octets.Reader) bool { return r.Num(8) == 0 },
		"Int":  func(r *octets.Reader) bool { return r.Int() == 0 },
		"Text": func(r *octets.Reader) bool { return r.Text() == "" },
		"Bool": func(r *octets.Reader) bool { return !r.Bool() },
	}
}

func TestBytesThatEndTooEarlyAreErrShort(t *testing.T) {
	whole := map[string][]byte{
		"Num":  {1, 2, 3, 4, 5, 6, 7, 8},
		"Int":  {9, 9, 9, 9},
		"Text": {4, 0, 0, 0, 'a', 'b', 'c'},
		"Bool": {1},
	}
	for name, read := range readers() {
		for n := range len(whole[name]) {
			r := octets.Read(whole[name][:n])
			if !read(r) || r.Err() != api.ErrShort || r.Left() != 0 {
				t.Errorf("P1.2: %s of %d bytes: error %d, %d left; want zero, %d, 0", name, n, r.Err(), r.Left(), api.ErrShort)
			}
		}
		if r := octets.Read(whole[name]); read(r) || r.Err() != api.OK || r.Left() != 0 {
			t.Errorf("P1.2: %s of all bytes: error %d, %d left", name, r.Err(), r.Left())
		}
	}
	for n := 1; n <= 8; n++ {
		if r := octets.Read(make([]byte, n-1)); r.Num(n) != 0 || r.Err() != api.ErrShort {
			t.Errorf("P1.2: Num of %d bytes of %d: error %d", n, n-1, r.Err())
		}
	}
	if r := octets.Read([]byte{255, 255, 255, 255, 'a'}); r.Text() != "" || r.Err() != api.ErrShort || r.Left() != 0 {
		t.Errorf("P1.2: a Text of more than there can be: error %d", r.Err())
	}
}

func TestOnceItFailsItStaysSo(t *testing.T) {
	ones := []byte{1, 1, 1, 1, 1, 1, 1, 1, 1, 1}
	faults := map[api.Errno]*octets.Reader{}
	short := octets.Read(append([]byte{99, 0, 0, 0}, ones...))
	short.Text()
	faults[api.ErrShort] = short
	form := octets.Read(append([]byte{2}, ones...))
	form.Bool()
	faults[api.ErrForm] = form
	for want, r := range faults {
		for name, read := range readers() {
			if !read(r) || r.Err() != want || r.Left() != 0 {
				t.Errorf("P1.2: %s behind error %d: error %d, %d left", name, want, r.Err(), r.Left())
			}
		}
	}
}

func TestANilWriterKeepsNothing(t *testing.T) {
	var w *octets.Writer
	w.Num(1, 1)
	w.Int(1)
	w.Text("a")
	w.Bool(true)
	if b := w.Bytes(); len(b) != 0 {
		t.Errorf("P1.1: Bytes of nil: % x", b)
	}
}

func TestANilReaderReadsNothing(t *testing.T) {
	var r *octets.Reader
	for name, read := range readers() {
		if !read(r) || r.Err() != api.ErrNil || r.Left() != 0 {
			t.Errorf("P1.2: %s of nil: error %d, %d left", name, r.Err(), r.Left())
		}
	}
}

func TestObjectsWithNothingInThem(t *testing.T) {
	if b := (&octets.Writer{}).Bytes(); len(b) != 0 {
		t.Errorf("P1.1: Bytes of a new Writer: % x", b)
	}
	for _, r := range []*octets.Reader{{}, octets.Read(nil), octets.Read([]byte{})} {
		if r.Err() != api.OK || r.Left() != 0 || r.Num(1) != 0 || r.Err() != api.ErrShort {
			t.Errorf("P1.2: a Reader of nothing: error %d, %d left", r.Err(), r.Left())
		}
	}
}

func TestEachGoesOnBehindTheOther(t *testing.T) {
	r := octets.Read([]byte{7, 3, 0, 0, 0, 'h', 'i', 1, 0, 0, 0, 0, 5, 6})
	if r.Left() != 14 || r.Num(1) != 7 || r.Left() != 13 || r.Text() != "hi" || r.Left() != 7 || !r.Bool() || r.Left() != 6 || r.Int() != -1 || r.Left() != 2 || r.Num(2) != 0x0605 || r.Left() != 0 || r.Err() != api.OK {
		t.Errorf("P1.2: error %d, %d left", r.Err(), r.Left())
	}
}

func TestWhatIsHandedInIsNeitherChangedNorKept(t *testing.T) {
	room := []byte{1, 2, 3, 4, 5, 6, 7, 8}
	r := octets.Read(room[:4])
	if r.Left() != 4 || r.Num(2) != 0x0201 {
		t.Error("P1.2: only what is handed in is read, not the room behind it")
	}
	room[2], room[3], room[4] = 9, 9, 9
	if r.Num(2) != 0x0403 || r.Num(1) != 0 || r.Err() != api.ErrShort {
		t.Error("R3: what is handed in is not kept")
	}
	if !slices.Equal(room, []byte{1, 2, 9, 9, 9, 6, 7, 8}) {
		t.Errorf("R3: what is handed in is not changed: % x", room)
	}
}

func TestWhatIsHandedOutIsNew(t *testing.T) {
	w := &octets.Writer{}
	w.Num(0x030201, 3)
	early := w.Bytes()
	clear(early)
	_ = append(early, 9, 9, 9)
	w.Num(4, 1)
	if b := w.Bytes(); !slices.Equal(b, []byte{1, 2, 3, 4}) {
		t.Errorf("R3: Bytes, behind one that was written into: % x", b)
	}
	if !slices.Equal(early, []byte{0, 0, 0}) {
		t.Errorf("R3: what was handed out changes by nothing that is written later: % x", early)
	}
}

func TestOneObjectHangsOnNoOther(t *testing.T) {
	a, b := &octets.Writer{}, &octets.Writer{}
	a.Text("a")
	b.Num(5, 1)
	a.Bool(true)
	if !slices.Equal(a.Bytes(), []byte{2, 0, 0, 0, 'a', 1}) || !slices.Equal(b.Bytes(), []byte{5}) {
		t.Errorf("R2: two Writers: % x and % x", a.Bytes(), b.Bytes())
	}
	from := []byte{1, 2}
	x, y := octets.Read(from), octets.Read(from)
	x.Num(8)
	if y.Err() != api.OK || y.Num(2) != 0x0201 {
		t.Error("R2: two Readers of the same bytes")
	}
}

// next answers a number that is scattered over all bits, the same ones in each run.
func next(state *uint64) uint64 {
	*state += 0x9e3779b97f4a7c15
	v := *state
	v = (v ^ v>>30) * 0xbf58476d1ce4e5b9
	v = (v ^ v>>27) * 0x94d049bb133111eb
	return v ^ v>>31
}

// writeSome writes what state chooses, and answers what has to be asked of a Reader of it.
func writeSome(w *octets.Writer, state *uint64) func(r *octets.Reader) bool {
	v := next(state)
	switch next(state) % 4 {
	case 0:
		n := int(next(state)%8) + 1
		w.Num(v, n)
		return func(r *octets.Reader) bool { return r.Num(n) == v<<(64-8*n)>>(64-8*n) }
	case 1:
		i := int(v%(1<<32)) - 1
		w.Int(i)
		return func(r *octets.Reader) bool { return r.Int() == i }
	case 2:
		s := strings.Repeat(string([]byte{byte(v), byte(v >> 8)}), int(v>>16%40))
		w.Text(s)
		return func(r *octets.Reader) bool { return r.Text() == s }
	default:
		w.Bool(v%2 == 1)
		return func(r *octets.Reader) bool { return r.Bool() == (v%2 == 1) }
	}
}

func TestWhatIsWrittenIsRead(t *testing.T) {
	state := uint64(1)
	for round := range 300 {
		w := &octets.Writer{}
		var asks []func(r *octets.Reader) bool
		for range next(&state) % 30 {
			asks = append(asks, writeSome(w, &state))
		}
		b := w.Bytes()
		r := octets.Read(b)
		for i, ask := range asks {
			if !ask(r) {
				t.Fatalf("What follows: round %d: the item %d is read otherwise", round, i)
			}
		}
		if r.Err() != api.OK || r.Left() != 0 {
			t.Fatalf("What follows: round %d: error %d, %d left", round, r.Err(), r.Left())
		}
		if len(b) > 0 {
			r = octets.Read(b[:len(b)-1])
			for _, ask := range asks {
				ask(r)
			}
			if r.Err() != api.ErrShort || r.Left() != 0 {
				t.Fatalf("P1.2: round %d, a byte short: error %d, %d left", round, r.Err(), r.Left())
			}
		}
	}
}
