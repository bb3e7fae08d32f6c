package store_test

import (
	"math/rand/v2"
	"slices"
	"testing"

	"noonbell/api"
	"noonbell/disk"
	"noonbell/store"
	"noonbell/wal"
)

// model is the chapter by another way than the program's: it keeps the
// records, and lays their forms, made by the library's means, down in a log.
type model struct {
	log *wal.Log
	l   []api.Record
}

func errOf(r api.Record) api.Errno {
	switch {
	case r.Kind < 1 || r.Kind > 255:
		return api.ErrArg
	case len(r.Who) > 64 || len(r.Nums) > 64 || len(r.Text) > 16384:
		return api.ErrSize
	}
	return api.OK
}

func (m *model) do(s step) api.Errno {
	for _, r := range s.l {
		if e := errOf(r); e != api.OK {
			return e
		}
	}
	e := api.OK
	if s.replace {
		e = m.log.Checkpoint(formsOf(s.l))
	} else {
		e = m.log.Append(formsOf(s.l))
	}
	if e == api.OK {
		m.l = s.behind(m.l)
	}
	return e
}

// pair is a store and the model, each on a disk of its own to which the same
// happens.
type pair struct {
	disks [2]*disk.Disk
	store *store.Store
	model *model
	// What a log's text may be at Open: the forms of these.
	may [][]api.Record
}

func newPair(t *testing.T) *pair {
	p := &pair{disks: [2]*disk.Disk{disk.New(), disk.New()}, may: [][]api.Record{nil}}
	p.open(t)
	return p
}

// open opens both anew; the model's records are those whose forms are the text.
func (p *pair) open(t *testing.T) {
	t.Helper()
	log, text, _ := wal.Open(p.disks[1])
	at := slices.IndexFunc(p.may, func(l []api.Record) bool { return formsOf(l) == text })
	if at < 0 {
		t.Fatalf("the log has %d bytes, which are no step's", len(text))
	}
	p.model = &model{log: log, l: p.may[at]}
	p.store = wantOpen(t, "opened anew", p.disks[0], p.model.l)
	p.may = [][]api.Record{p.model.l}
}

func (p *pair) both(f func(d *disk.Disk)) {
	f(p.disks[0])
	f(p.disks[1])
}

func (p *pair) step(t *testing.T, s step) {
	t.Helper()
	elder := p.model.l
	got, want := s.on(p.store), p.model.do(s)
	if got != want {
		t.Fatalf("%s: error %d, not %d", s, got, want)
	}
	switch want {
	case api.OK:
		p.may = [][]api.Record{p.model.l}
	case api.ErrIO, api.ErrDead:
		// Only the first call behind which the log is stuck may be there.
		if len(p.may) == 1 {
			p.may = append(p.may, s.behind(elder))
		}
	}
}

func (p *pair) want(t *testing.T) {
	t.Helper()
	a, b := p.disks[0], p.disks[1]
	if sectorsOf(a) != sectorsOf(b) || a.Ops() != b.Ops() || a.Dead() != b.Dead() {
		t.Fatalf("the disks are not the same behind %d and %d calls", a.Ops(), b.Ops())
	}
	wantStore(t, "behind what happened", p.store, p.model.l)
}

func someText(source *rand.Rand, n int) string {
	b := make([]byte, n)
	for i := range b {
		b[i] = byte(source.Uint32())
	}
	return string(b)
}

func someRecord(source *rand.Rand) api.Record {
	r := api.Record{Kind: 1 + source.IntN(255), Who: someText(source, source.IntN(9))}
	for range source.IntN(5) {
		r.Nums = append(r.Nums, int(source.Uint64())>>source.IntN(64))
	}
	sizes := []int{0, 1, 30, 240, 256, 300, 700, 16384}
	r.Text = someText(source, sizes[min(source.IntN(len(sizes)), source.IntN(len(sizes)))])
	switch source.IntN(40) {
	case 0:
		r.Kind = []int{0, -1, 256, 1000}[source.IntN(4)]
	case 1:
		r.Who = someText(source, 64+source.IntN(2))
	case 2:
		r.Nums = make([]int, 64+source.IntN(2))
	case 3:
		r.Text = someText(source, 16384+source.IntN(2))
	}
	return r
}

func someStep(source *rand.Rand) step {
	s := step{replace: source.IntN(4) == 0}
	for range source.IntN(5) {
		s.l = append(s.l, someRecord(source))
	}
	return s
}

func someKeep(source *rand.Rand) uint64 {
	return []uint64{0, all, source.Uint64(), source.Uint64()}[source.IntN(4)]
}

// happens lets one thing happen to both.
func (p *pair) happens(t *testing.T, source *rand.Rand) {
	t.Helper()
	n, keep := source.IntN(20), someKeep(source)
	switch source.IntN(16) {
	case 0:
		p.both(func(d *disk.Disk) { d.Cut(n, keep) })
	case 1:
		p.both(func(d *disk.Disk) { d.Fail(n) })
	case 2:
		p.both(func(d *disk.Disk) { d.Crash(keep) })
	case 3, 4:
		// Without a crash what is cached stays so, and may be lost later.
		p.both(func(d *disk.Disk) { d.Crash(keep) })
		p.both((*disk.Disk).Power)
		p.open(t)
	default:
		p.step(t, someStep(source))
	}
	p.want(t)
}

func TestP71ToP74AgainstTheModel(t *testing.T) {
	for seed := range uint64(60) {
		source, p := rand.New(rand.NewPCG(seed, 7)), newPair(t)
		for range 200 {
			p.happens(t, source)
		}
	}
}

// Cuts and failures one behind the other, on one disk: what was acknowledged
// is there, and of what was under way all or nothing.
func TestP74ManyCrashes(t *testing.T) {
	taken, lost := 0, 0
	for seed := range uint64(60) {
		source, d := rand.New(rand.NewPCG(seed, 8)), disk.New()
		on, l, _ := store.Open(d)
		for range 150 {
			keep, s := someKeep(source), someStep(source)
			if source.IntN(3) == 0 {
				d.Cut(source.IntN(10), keep)
			}
			if source.IntN(5) == 0 {
				d.Fail(source.IntN(10))
			}
			e := s.on(on)
			if e == api.OK {
				l = s.behind(l)
			}
			if e != api.ErrIO && e != api.ErrDead && source.IntN(3) > 0 {
				continue
			}
			d.Crash(keep)
			d.Power()
			var got []api.Record
			on, got, _ = store.Open(d)
			switch {
			case slices.EqualFunc(got, l, same):
				lost++
			case (e == api.ErrIO || e == api.ErrDead) && slices.EqualFunc(got, s.behind(l), same):
				taken++
			default:
				t.Fatalf("seed %d: %s, error %d: %s, neither %s nor that with the step", seed, s, e, shown(got), shown(l))
			}
			l = got
		}
	}
	if taken < 50 || lost < 50 {
		t.Errorf("%d steps under way were taken, %d were not", taken, lost)
	}
}
