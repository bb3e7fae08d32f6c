package wal_test

import (
	"math/rand/v2"
	"strings"
	"testing"

	"noonbell/api"
	"noonbell/disk"
	"noonbell/wal"
)

// model is the chapter by another way than the program's: it keeps the whole
// text, and lists the disk's calls of a step ahead of making them.
type model struct {
	disk *disk.Disk
	text string
	n    uint64
	area int
	err  api.Errno
}

type call struct {
	sync bool
	i    int
	s    string
}

// calls are those of a step that makes text of what the log has, whose bytes
// from old on are new.
func (m *model) calls(old int, text string, area int) []call {
	var l []call
	for k := range 127 {
		from, to := k*256, min(k*256+256, len(text))
		if to > old && from < to {
			l = append(l, call{i: 2 + 127*area + k, s: text[from:to]})
		}
	}
	l = append(l, call{sync: true})
	l = append(l, call{i: int((m.n + 1) % 2), s: rightOf(m.n+1, byte(area), text)})
	return append(l, call{sync: true})
}

func (m *model) do(s step) api.Errno {
	if m.err != api.OK {
		return m.err
	}
	text, area, old := s.behind(m.text), m.area, len(m.text)
	if s.checkpoint {
		area, old = 1-area, 0
	}
	if len(text) > roomiest {
		return api.ErrFull
	}
	for _, c := range m.calls(old, text, area) {
		if c.sync {
			m.err = m.disk.Sync()
		} else {
			m.err = m.disk.Write(c.i, c.s)
		}
		if m.err != api.OK {
			return m.err
		}
	}
	m.text, m.area = text, area
	m.n++
	return api.OK
}

// open tells the text by going through the bytes of the disk.
func open(d *disk.Disk) *model {
	best := &model{disk: d}
	for _, sector := range []int{0, 1} {
		c, _ := d.Read(sector)
		if len(c) != 21 {
			continue
		}
		n, area, length := uint64(0), int(c[8]), 0
		for i := range 8 {
			n = n*256 + uint64(c[i])
		}
		for i := range 4 {
			length = length*256 + int(c[9+i])
		}
		if area > 1 || length > roomiest || n <= best.n {
			continue
		}
		text := areaOf(d, area)[:length]
		if c == rightOf(n, byte(area), text) {
			best = &model{disk: d, text: text, n: n, area: area}
		}
	}
	return best
}

func areaOf(d *disk.Disk, area int) string {
	var b strings.Builder
	for i := range 127 {
		s, _ := d.Read(2 + 127*area + i)
		b.WriteString(s + strings.Repeat("\x00", 256-len(s)))
	}
	return b.String()
}

// pair is a log and the model, each on a disk of its own to which the same
// happens.
type pair struct {
	disks [2]*disk.Disk
	log   *wal.Log
	model *model
}

func newPair() *pair {
	p := &pair{disks: [2]*disk.Disk{disk.New(), disk.New()}}
	p.open()
	return p
}

func (p *pair) open() (got, want string) {
	p.log, got, _ = wal.Open(p.disks[0])
	p.model = open(p.disks[1])
	return got, p.model.text
}

func (p *pair) both(f func(d *disk.Disk)) {
	f(p.disks[0])
	f(p.disks[1])
}

func (p *pair) want(t *testing.T, what string) {
	t.Helper()
	a, b := p.disks[0], p.disks[1]
	if sectorsOf(a) != sectorsOf(b) || a.Ops() != b.Ops() || a.Dead() != b.Dead() {
		t.Fatalf("%s: the disks are not the same behind %d and %d calls", what, a.Ops(), b.Ops())
	}
	if p.log.Len() != len(p.model.text) || p.log.Err() != p.model.err {
		t.Fatalf("%s: Len %d, Err %d, not %d, %d", what, p.log.Len(), p.log.Err(), len(p.model.text), p.model.err)
	}
}

func (p *pair) step(t *testing.T, s step) {
	t.Helper()
	if got, want := s.on(p.log), p.model.do(s); got != want {
		t.Fatalf("%s: error %d, not %d", s, got, want)
	}
	p.want(t, s.String())
}

// Which calls are made, in which order: a cut at each of them, of which each
// single cached sector is kept, or all, or none; and a failure, likewise.
func TestP54TheCallsInTheirOrder(t *testing.T) {
	for _, begin := range beginnings() {
		for _, s := range endings() {
			for k := range 8 {
				for bit := range 7 {
					keep := []uint64{1, 2, 4, 8, 16, 0, all}[bit]
					for _, fails := range []bool{false, true} {
						p := newPair()
						for _, b := range begin {
							p.step(t, b)
						}
						if fails {
							p.both(func(d *disk.Disk) { d.Fail(k) })
						} else {
							p.both(func(d *disk.Disk) { d.Cut(k, keep) })
						}
						p.step(t, s)
						p.both(func(d *disk.Disk) { d.Crash(keep) })
						p.want(t, s.String()+", crash")
					}
				}
			}
		}
	}
}

func aStep(source *rand.Rand) step {
	sizes := []int{0, 1, 2, 5, 100, 250, 255, 256, 257, 300, 511, 512, 513, 2000}
	n := sizes[source.IntN(len(sizes))]
	switch source.IntN(60) {
	case 0:
		n = source.IntN(roomiest + 1)
	case 1:
		n = roomiest - source.IntN(3) + 1
	}
	return step{source.IntN(5) == 0, textOf(n, source.Uint64())}
}

func aKeep(source *rand.Rand) uint64 {
	switch source.IntN(5) {
	case 0:
		return 0
	case 1:
		return all
	}
	return source.Uint64()
}

// happens lets one thing happen to both, and answers what it was.
func (p *pair) happens(t *testing.T, source *rand.Rand) {
	t.Helper()
	n, keep := source.IntN(20), aKeep(source)
	switch source.IntN(20) {
	case 0:
		p.both(func(d *disk.Disk) { d.Cut(n, keep) })
	case 1:
		p.both(func(d *disk.Disk) { d.Fail(n) })
	case 2:
		p.both(func(d *disk.Disk) { d.Crash(keep) })
	case 3, 4:
		p.both(func(d *disk.Disk) { d.Power() })
		p.reopen(t)
	case 5:
		p.reopen(t)
	case 6:
		// Somebody else writes: texts are broken, and commits.
		i, s := source.IntN(4)*source.IntN(100), textOf(source.IntN(257), source.Uint64())
		p.both(func(d *disk.Disk) { d.Write(i, s) })
		p.reopen(t)
	default:
		p.step(t, aStep(source))
	}
	p.want(t, "behind what happened")
}

func (p *pair) reopen(t *testing.T) {
	t.Helper()
	if got, want := p.open(); got != want {
		t.Fatalf("Open: %s, not %s", shown(got), shown(want))
	}
}

func TestP52ToP54AgainstTheModel(t *testing.T) {
	for seed := range uint64(40) {
		source, p := rand.New(rand.NewPCG(seed, 70)), newPair()
		for range 400 {
			p.happens(t, source)
		}
	}
}

// Cuts and failures one behind the other, on one disk: what was acknowledged
// is there, and of what was under way all or nothing.
func TestP55ManyCrashes(t *testing.T) {
	taken, lost := 0, 0
	for seed := range uint64(60) {
		source, d := rand.New(rand.NewPCG(seed, 71)), disk.New()
		l, text, _ := wal.Open(d)
		for range 200 {
			keep, s := aKeep(source), aStep(source)
			if source.IntN(3) == 0 {
				d.Cut(source.IntN(12), keep)
			}
			if source.IntN(5) == 0 {
				d.Fail(source.IntN(12))
			}
			e := s.on(l)
			if e == api.OK {
				text = s.behind(text)
			}
			if e == api.OK && source.IntN(3) > 0 || e == api.ErrFull {
				continue
			}
			d.Crash(keep)
			d.Power()
			var got string
			l, got, _ = wal.Open(d)
			switch {
			case got == text:
				lost++
			case e != api.OK && got == s.behind(text):
				taken++
			default:
				t.Fatalf("seed %d: %s, error %d: %s, neither %s nor that with the step", seed, s, e, shown(got), shown(text))
			}
			text = got
		}
	}
	if taken < 50 || lost < 50 {
		t.Errorf("%d steps under way were taken, %d were not", taken, lost)
	}
}
