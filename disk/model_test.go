package disk_test

import (
	"math"
	"testing"

	"rick/api"
	"rick/disk"
)

// model is the same as a disk, told as the document tells it: of each file two texts, what a crash leaves and what it may lose.
type model struct {
	room        int
	firm, loose [api.Files]string
	crash       *crash
}

// crash is what a disk is armed with. It is never changed, so that models may share it.
type crash struct {
	left int
	keep []int
}

// refusal answers why nothing can be done with a file.
func (m *model) refusal(file int) api.Errno {
	if m.down() {
		return api.ErrCrash
	}
	if file != api.Objects && file != api.Meta {
		return api.ErrArg
	}
	return api.OK
}

func (m *model) down() bool {
	return m.crash != nil && m.crash.left == 0
}

func (m *model) step() api.Errno {
	if m.crash != nil {
		m.crash = &crash{left: m.crash.left - 1, keep: m.crash.keep}
	}
	return api.OK
}

func (m *model) free() int {
	return m.room - len(m.firm[0]+m.loose[0]+m.firm[1]+m.loose[1])
}

func (m *model) append(file int, s string) api.Errno {
	if e := m.refusal(file); e != api.OK {
		return e
	}
	if len(s) > m.free() {
		return api.ErrFull
	}
	m.loose[file] += s
	return m.step()
}

func (m *model) sync(file int) api.Errno {
	if e := m.refusal(file); e != api.OK {
		return e
	}
	m.firm[file], m.loose[file] = m.firm[file]+m.loose[file], ""
	return m.step()
}

func (m *model) cut(file, n int) api.Errno {
	if e := m.refusal(file); e != api.OK {
		return e
	}
	firm := len(m.firm[file])
	switch {
	case n < 0 || n > firm+len(m.loose[file]):
		return api.ErrArg
	case n < firm:
		m.firm[file], m.loose[file] = m.firm[file][:n], ""
	default:
		m.loose[file] = m.loose[file][:n-firm]
	}
	return m.step()
}

func (m *model) arm(steps int, keep []int) {
	if !m.down() {
		m.crash = &crash{left: max(steps, 0), keep: keep}
	}
}

func (m *model) restart() *model {
	r := &model{room: m.room, firm: m.firm}
	if m.crash == nil {
		return r
	}
	for file, keep := range m.crash.keep[:min(len(m.crash.keep), api.Files)] {
		for i := range m.loose[file] {
			if i < keep {
				r.firm[file] += m.loose[file][i : i+1]
			}
		}
	}
	return r
}

func (m *model) fork() *model {
	f := *m
	return &f
}

// pair is a disk, and what it should be.
type pair struct {
	d *disk.Disk
	m *model
}

// alike tells whether of both all is the same.
func (p pair) alike() bool {
	if p.d.Free() != p.m.free() || p.d.Down() != p.m.down() {
		return false
	}
	for file := -1; file <= api.Files; file++ {
		b, e := p.d.Read(file)
		want, firm := "", 0
		if e == api.OK {
			want = p.m.firm[file] + p.m.loose[file]
		}
		if 0 <= file && file < api.Files {
			firm = len(p.m.firm[file])
		}
		if e != p.m.refusal(file) || string(b) != want || p.d.Synced(file) != firm {
			return false
		}
	}
	return true
}

// next answers a number that is scattered over all bits, the same ones in each run.
func next(state *uint64) uint64 {
	*state += 0x9e3779b97f4a7c15
	v := *state
	v = (v ^ v>>30) * 0xbf58476d1ce4e5b9
	v = (v ^ v>>27) * 0x94d049bb133111eb
	return v ^ v>>31
}

// upTo answers a number from -1 to n, now and then a far greater or smaller one.
func upTo(n int, state *uint64) int {
	switch next(state) % 30 {
	case 0:
		return math.MaxInt
	case 1:
		return math.MinInt
	default:
		return int(next(state)%uint64(n+2)) - 1
	}
}

// text answers up to seven letters.
func text(state *uint64) string {
	s := ""
	for range next(state) % 8 {
		s += string(rune('a' + next(state)%26))
	}
	return s
}

// do does the same with both, and tells whether they answer alike; and a pair that comes of it, if one does.
func (p pair) do(state *uint64) (bool, pair) {
	file := upTo(api.Files, state)
	switch next(state) % 12 {
	case 0, 1, 2, 3:
		s := text(state)
		return p.d.Append(file, []byte(s)) == p.m.append(file, s), pair{}
	case 4, 5:
		return p.d.Sync(file) == p.m.sync(file), pair{}
	case 6, 7, 8:
		n := upTo(12, state)
		return p.d.Cut(file, n) == p.m.cut(file, n), pair{}
	case 9:
		var keep []int
		for range next(state) % 4 {
			keep = append(keep, upTo(6, state))
		}
		n := upTo(9, state)
		p.d.Arm(n, keep)
		p.m.arm(n, keep)
		return true, pair{}
	case 10:
		return true, pair{p.d.Restart(), p.m.restart()}
	default:
		return true, pair{p.d.Fork(), p.m.fork()}
	}
}

// Many disks stand beside each other, restarts and forks of one another: none may change when another one does.
func TestManyStepsOnManyDisks(t *testing.T) {
	state := uint64(1)
	for round := range 400 {
		room := int(next(&state) % 40)
		pairs := []pair{{disk.New(room), &model{room: room}}}
		for step := range 120 {
			at := next(&state) % uint64(len(pairs))
			same, more := pairs[at].do(&state)
			if !same {
				t.Fatalf("P3.1: round %d, step %d: another error than the document's", round, step)
			}
			if more.d != nil && len(pairs) < 8 {
				pairs = append(pairs, more)
			} else if more.d != nil {
				pairs[next(&state)%uint64(len(pairs))] = more
			}
			for i, p := range pairs {
				if !p.alike() {
					t.Fatalf("P3.1, P3.2: round %d, step %d (of the disk %d): the disk %d is not as it should be", round, step, at, i)
				}
			}
		}
	}
}
