package disk_test

import (
	"math/rand/v2"
	"strconv"
	"testing"

	"noonbell/api"
	"noonbell/disk"
)

// model is the chapter by another way than the program's: it keeps the writes
// themselves, one by one, and works a sector out when it is asked.
type model struct {
	lasted        map[int]string
	since         []written
	ops           int
	dead, failing bool
	cut, failure  *int
	keep          uint64
}

type written struct {
	i int
	s string
}

func (m *model) read(i int) string {
	for n := len(m.since) - 1; n >= 0; n-- {
		if m.since[n].i == i {
			return m.since[n].s
		}
	}
	return m.lasted[i]
}

func (m *model) crash(keep uint64) {
	if m.dead {
		return
	}
	place := map[int]int{}
	for _, w := range m.since {
		if _, there := place[w.i]; !there {
			place[w.i] = len(place)
		}
	}
	for _, w := range m.since {
		if keep&(1<<(place[w.i]%64)) != 0 {
			m.lasted[w.i] = w.s
		}
	}
	m.since, m.cut, m.failure, m.dead = nil, nil, nil, true
}

func (m *model) call() api.Errno {
	if m.dead {
		return api.ErrDead
	}
	if m.failing {
		return api.ErrIO
	}
	if m.cut != nil && *m.cut <= 0 {
		m.crash(m.keep)
		return api.ErrDead
	}
	if m.failure != nil && *m.failure <= 0 {
		m.failing = true
		return api.ErrIO
	}
	for _, left := range []*int{m.cut, m.failure} {
		if left != nil {
			*left--
		}
	}
	m.ops++
	return api.OK
}

func (m *model) write(i int, s string) api.Errno {
	if i < 0 || i > 255 {
		return api.ErrSector
	}
	if len(s) > 256 {
		return api.ErrSize
	}
	e := m.call()
	if e == api.OK {
		m.since = append(m.since, written{i, s})
	}
	return e
}

func (m *model) sync() api.Errno {
	e := m.call()
	if e == api.OK {
		for _, w := range m.since {
			m.lasted[w.i] = w.s
		}
		m.since = nil
	}
	return e
}

func (m *model) power() {
	m.dead, m.failing, m.cut, m.failure = false, false, nil, nil
}

// aSector is seldom none at all; few sectors are written again and again.
func aSector(source *rand.Rand, sectors int) int {
	if source.IntN(40) == 0 {
		return []int{-1, api.Sectors, -7, 9999}[source.IntN(4)]
	}
	return source.IntN(sectors)
}

func aText(source *rand.Rand, n int) string {
	switch source.IntN(40) {
	case 0:
		return longest()
	case 1:
		return longest() + "x"
	case 2:
		return ""
	}
	return strconv.Itoa(n)
}

func aKeep(source *rand.Rand) uint64 {
	switch source.IntN(6) {
	case 0:
		return 0
	case 1:
		return all
	}
	return source.Uint64()
}

// act carries one thing out on both, and answers what they said.
func act(source *rand.Rand, d *disk.Disk, m *model, n, sectors int) (got, want api.Errno) {
	switch source.IntN(100) {
	case 0, 1:
		keep := aKeep(source)
		d.Crash(keep)
		m.crash(keep)
	case 2, 3:
		calls, keep := source.IntN(2*sectors)-2, aKeep(source)
		d.Cut(calls, keep)
		m.cut, m.keep = &calls, keep
	case 4, 5:
		calls := source.IntN(2*sectors) - 2
		d.Fail(calls)
		m.failure = &calls
	case 6, 7, 8, 9, 10, 11, 12:
		d.Power()
		m.power()
	case 13, 14, 15:
		return d.Sync(), m.sync()
	default:
		i, s := aSector(source, sectors), aText(source, n)
		return d.Write(i, s), m.write(i, s)
	}
	return api.OK, api.OK
}

func TestP41ToP46AgainstTheModel(t *testing.T) {
	for _, sectors := range []int{2, 5, 70, api.Sectors} {
		for seed := range uint64(20) {
			source := rand.New(rand.NewPCG(seed, uint64(sectors)))
			d, m := disk.New(), &model{lasted: map[int]string{}}
			for n := range 1500 {
				got, want := act(source, d, m, n, sectors)
				if got != want || d.Ops() != m.ops || d.Dead() != m.dead {
					t.Fatalf("%d sectors, seed %d, call %d: error %d, %d calls, dead %t, not %d, %d, %t", sectors, seed, n, got, d.Ops(), d.Dead(), want, m.ops, m.dead)
				}
				for _, i := range []int{n % sectors, source.IntN(sectors), source.IntN(api.Sectors)} {
					if s, e := d.Read(i); s != m.read(i) || e != api.OK {
						t.Fatalf("%d sectors, seed %d, call %d: sector %d is %q, error %d, not %q", sectors, seed, n, i, s, e, m.read(i))
					}
				}
			}
			for i := range api.Sectors {
				wantRead(t, d, i, m.read(i))
			}
		}
	}
}
