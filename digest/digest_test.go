package digest_test

import (
	"bytes"
	"cmp"
	"crypto/sha256"
	"encoding/hex"
	"slices"
	"strings"
	"sync"
	"testing"

	"rick/api"
	"rick/digest"
)

// next answers a number that is scattered over all bits, the same ones in each run.
func next(state *uint64) uint64 {
	*state += 0x9e3779b97f4a7c15
	v := *state
	v = (v ^ v>>30) * 0xbf58476d1ce4e5b9
	v = (v ^ v>>27) * 0x94d049bb133111eb
	return v ^ v>>31
}

// scattered answers n bytes that hang on state.
func scattered(n int, state *uint64) []byte {
	b := make([]byte, n)
	for i := range b {
		b[i] = byte(next(state))
	}
	return b
}

// scatteredKey answers a key that hangs on state.
func scatteredKey(state *uint64) api.Key {
	return api.Key(scattered(len(api.Key{}), state))
}

func TestSumOfKnownTexts(t *testing.T) {
	for _, c := range []struct{ text, want string }{
		{"", "e3b0c44298fc1c149afbf4c8996fb92427ae41e4649b934ca495991b7852b855"},
		{"abc", "ba7816bf8f01cfea414140de5dae2223b00361a396177a9cb410ff61f20015ad"},
		{"abcdbcdecdefdefgefghfghighijhijkijkljklmklmnlmnomnopnopq", "248d6a61d20638b8e5c026930c3e6039a33ce45964ff2167f6ecedd419db06c1"},
		{"abcdefghbcdefghicdefghijdefghijkefghijklfghijklmghijklmnhijklmnoijklmnopjklmnopqklmnopqrlmnopqrsmnopqrstnopqrstu", "cf5b16a778af8380036ce59e7b0492370b249b11e8f07a51afac45037afee9d1"},
		{"The quick brown fox jumps over the lazy dog", "d7a8fbb307d7809469ca9abcb0082e4f8d5651e46d3cdb762d02d0bf37c9e592"},
		{strings.Repeat("a", 1_000_000), "cdc76e5c9914fb9281a1c7e284d73e67f1809a48a497200e046d39ccc7112cd0"},
	} {
		if got := digest.Hex(digest.Sum([]byte(c.text))); got != c.want {
			t.Errorf("P2.1: Sum of %d bytes: %s; want %s", len(c.text), got, c.want)
		}
	}
	if digest.Sum(nil) != digest.Sum([]byte{}) {
		t.Error("R3: Sum of nil and of an empty list")
	}
}

func TestSumOfAllLengthsAboutTheEndsOfBlocks(t *testing.T) {
	state := uint64(1)
	for n := range 400 {
		for kind, b := range map[string][]byte{
			"scattered": scattered(n, &state),
			"zeros":     make([]byte, n),
			"ones":      bytes.Repeat([]byte{0xff}, n),
		} {
			if got, want := digest.Sum(b), api.Key(sha256.Sum256(b)); got != want {
				t.Errorf("P2.1: Sum of %d bytes (%s): %x; want %x", n, kind, got, want)
			}
		}
	}
	for _, n := range []int{4_095, 4_096, 8_191, 8_192, api.MaxText, 65_535, 65_536, api.MaxRecord, api.MaxDisk, 1<<21 + 55} {
		b := scattered(n, &state)
		if got, want := digest.Sum(b), api.Key(sha256.Sum256(b)); got != want {
			t.Errorf("P2.1: Sum of %d bytes: %x; want %x", n, got, want)
		}
	}
}

func TestSumHangsOnEachBit(t *testing.T) {
	state := uint64(2)
	b := scattered(130, &state)
	sums := map[api.Key]bool{digest.Sum(b): true}
	for i := range b {
		for bit := range 8 {
			b[i] ^= 1 << bit
			sums[digest.Sum(b)] = true
			b[i] ^= 1 << bit
		}
	}
	if len(sums) != 1+8*len(b) {
		t.Errorf("P2.1: %d names; want %d", len(sums), 1+8*len(b))
	}
}

func TestTheSameBytesHaveTheSameName(t *testing.T) {
	state := uint64(3)
	for n := range 200 {
		b := scattered(n, &state)
		want := digest.Sum(b)
		digest.Sum(scattered(n, &state))
		room := append(append(make([]byte, 0, n+300), 7), b...)
		if digest.Sum(b) != want || digest.Sum(slices.Clone(b)) != want || digest.Sum(room[1:]) != want {
			t.Errorf("What follows: Sum of the same %d bytes", n)
		}
	}
}

func TestSumChangesNothingThatIsHandedIn(t *testing.T) {
	for n := range 200 {
		room := bytes.Repeat([]byte{0xa5}, n+300)
		want := slices.Clone(room)
		k := digest.Sum(room[:n])
		if !bytes.Equal(room, want) {
			t.Errorf("R3: Sum of %d bytes changes them, or the room behind them", n)
		}
		clear(room)
		if k != api.Key(sha256.Sum256(want[:n])) {
			t.Errorf("R3: Sum of %d bytes with room behind them", n)
		}
	}
}

func TestSumsAtOnceHangOnNoOther(t *testing.T) {
	state := uint64(4)
	texts := make([][]byte, 16)
	for i := range texts {
		texts[i] = scattered(1_000+i, &state)
	}
	got := make([]api.Key, len(texts))
	var all sync.WaitGroup
	for i := range texts {
		all.Go(func() {
			for range 20 {
				got[i] = digest.Sum(texts[i])
			}
		})
	}
	all.Wait()
	for i := range texts {
		if got[i] != api.Key(sha256.Sum256(texts[i])) {
			t.Errorf("R2: Sum of the text %d, beside others", i)
		}
	}
}

func TestHex(t *testing.T) {
	var rising api.Key
	for i := range rising {
		rising[i] = byte(i)
	}
	for _, c := range []struct {
		k    api.Key
		want string
	}{
		{api.Key{}, strings.Repeat("0", 64)},
		{api.Key(bytes.Repeat([]byte{0xff}, 32)), strings.Repeat("f", 64)},
		{rising, "000102030405060708090a0b0c0d0e0f101112131415161718191a1b1c1d1e1f"},
		{api.Key{0: 0xa5}, "a5" + strings.Repeat("0", 62)},
		{api.Key{31: 0x5a}, strings.Repeat("0", 62) + "5a"},
	} {
		if got := digest.Hex(c.k); got != c.want {
			t.Errorf("P2.1: Hex of %x: %s; want %s", c.k, got, c.want)
		}
		if got, is := digest.FromHex(c.want); !is || got != c.k {
			t.Errorf("P2.1: FromHex of %s: %x, %v", c.want, got, is)
		}
	}
}

func TestHexAndFromHexOfEachByteAtEachPlace(t *testing.T) {
	for place := range len(api.Key{}) {
		for v := range 256 {
			k := api.Key(bytes.Repeat([]byte{0x3c}, 32))
			k[place] = byte(v)
			s := digest.Hex(k)
			if s != hex.EncodeToString(k[:]) {
				t.Errorf("P2.1: Hex with the byte %d at %d: %s", v, place, s)
			}
			if got, is := digest.FromHex(s); !is || got != k {
				t.Errorf("P2.1: FromHex of %s: %x, %v", s, got, is)
			}
		}
	}
}

func TestFromHexOfOtherLengthsIsFalse(t *testing.T) {
	for n := range 200 {
		for _, fill := range []string{"0", "f", "7"} {
			k, is := digest.FromHex(strings.Repeat(fill, n))
			if is != (n == 64) {
				t.Errorf("P2.1: FromHex of %d digits: %v", n, is)
			}
			if !is && k != (api.Key{}) {
				t.Errorf("R4: FromHex of %d digits: %x", n, k)
			}
		}
	}
}

func TestFromHexOfOtherBytesIsFalse(t *testing.T) {
	const digits = "0123456789abcdef"
	whole := strings.Repeat("9a", 32)
	for place := range whole {
		for v := range 256 {
			s := whole[:place] + string([]byte{byte(v)}) + whole[place+1:]
			k, is := digest.FromHex(s)
			if is != (strings.IndexByte(digits, byte(v)) >= 0) {
				t.Errorf("P2.1: FromHex with the byte %d at %d: %v", v, place, is)
			}
			if !is && k != (api.Key{}) {
				t.Errorf("R4: FromHex with the byte %d at %d: %x", v, place, k)
			}
			if is && digest.Hex(k) != s {
				t.Errorf("P2.1: Hex of FromHex of %s: %s", s, digest.Hex(k))
			}
		}
	}
	for _, s := range []string{strings.Repeat("A", 64), "0x" + whole[2:], " " + whole[1:], whole[:63] + "\n", "+" + whole[1:], "-" + whole[1:], whole[:31] + "_" + whole[32:], strings.Repeat("\u0661", 32), strings.Repeat("\xff", 64), whole[:62] + "\u00e9"} {
		if k, is := digest.FromHex(s); is || k != (api.Key{}) {
			t.Errorf("P2.1: FromHex of %q: %x, %v", s, k, is)
		}
	}
}

func TestLess(t *testing.T) {
	for _, c := range []struct {
		a, b api.Key
		want bool
	}{
		{api.Key{}, api.Key{}, false},
		{api.Key{}, api.Key{31: 1}, true},
		{api.Key{31: 1}, api.Key{}, false},
		{api.Key{31: 1}, api.Key{30: 1}, true},
		{api.Key{30: 1}, api.Key{31: 255}, false},
		{api.Key{0, 255}, api.Key{1}, true},
		{api.Key{1}, api.Key{0, 255}, false},
		{api.Key{127}, api.Key{128}, true},
		{api.Key{255}, api.Key{128}, false},
		{api.Key{1, 5, 9}, api.Key{1, 6, 3}, true},
		{api.Key{1, 6, 3}, api.Key{1, 5, 9}, false},
	} {
		if got := digest.Less(c.a, c.b); got != c.want {
			t.Errorf("P2.1: Less of %x and %x: %v", c.a, c.b, got)
		}
	}
}

func TestLessIsThatOfTheirBytesAndOfTheirHexes(t *testing.T) {
	state := uint64(5)
	for range 2_000 {
		a := scatteredKey(&state)
		b := a
		for range 1 + next(&state)%3 {
			b[next(&state)%32] = byte(next(&state))
		}
		want := bytes.Compare(a[:], b[:]) < 0
		if digest.Less(a, b) != want || want != (cmp.Compare(digest.Hex(a), digest.Hex(b)) < 0) {
			t.Errorf("P2.1: Less of %x and %x: %v", a, b, !want)
		}
		if digest.Less(a, b) && digest.Less(b, a) || digest.Less(a, a) {
			t.Errorf("P2.1: Less both ways of %x and %x", a, b)
		}
	}
}
