package pack_test

import (
	"bytes"
	"fmt"
	"testing"

	"rick/pack"
	"rick/store"
)

// dice answers numbers that are scattered, the same ones in each run.
type dice uint64

func (d *dice) next(n int) int {
	*d += 0x9e3779b97f4a7c15
	v := uint64(*d)
	v = (v ^ v>>30) * 0xbf58476d1ce4e5b9
	v = (v ^ v>>27) * 0x94d049bb133111eb
	return int((v ^ v>>31) % uint64(n))
}

// body is an object, often one that came already, or now and then none; and whether it is one.
func (d *dice) body() ([]byte, bool) {
	switch d.next(12) {
	case 0:
		return nil, false
	case 1:
		return []byte{byte(4 + d.next(200)), 1}, false
	case 2, 3:
		return treeOf("a", sum(blob(fmt.Sprint(d.next(3))))), true
	case 4, 5:
		return commitOf(sum(nil), sum(nil), uint64(d.next(3))), true
	}
	return blob(fmt.Sprint(d.next(6))), true
}

// file is some file, and by the words of the chapter what of it is loaded: which objects, and how many bytes.
func (d *dice) file() (file []byte, all [][]byte, taken int) {
	goes := true
	for range d.next(14) {
		b, is := d.body()
		f := frame(b)
		if d.next(20) == 0 {
			f[d.next(len(f))] ^= byte(1 + d.next(255))
			is = false
		}
		file = append(file, f...)
		if goes = goes && is; goes {
			taken = len(file)
			all = with(all, b)
		}
	}
	if d.next(4) == 0 {
		file = append(file, make([]byte, 1+d.next(7))...)
	}
	return file, all, taken
}

// with is all, and b behind it, unless it is one of them.
func with(all [][]byte, b []byte) [][]byte {
	for _, one := range all {
		if bytes.Equal(one, b) {
			return all
		}
	}
	return append(all, b)
}

func TestFilesOfTheDice(t *testing.T) {
	d := dice(17)
	whole, ended := 0, 0
	for i := range 3_000 {
		file, all, taken := d.file()
		loads(t, fmt.Sprint("the file ", i), file, taken, all...)
		if taken == len(file) {
			whole++
		} else {
			ended++
		}
	}
	if whole < 500 || ended < 500 {
		t.Errorf("%d files are whole, and %d are not: that is no fair test", whole, ended)
	}
}

// A file grows by what its store has more each time, as a disk's does; so it always tells all of the store.
func TestFilesThatGrow(t *testing.T) {
	d := dice(18)
	for range 100 {
		s := store.New()
		var file []byte
		var all [][]byte
		for range 10 {
			was := s.Len()
			for range d.next(4) {
				if b, is := d.body(); is {
					s.Put(b)
					all = with(all, b)
				}
			}
			file = append(file, pack.Write(s, was)...)
			loads(t, "what grew", file, len(file), all...)
			if want, _ := fileOf(all...); !bytes.Equal(file, want) {
				t.Errorf("P17.1: what grew by Write: % x; want % x", file, want)
			}
			s, _ = pack.Load(file)
		}
	}
}
