package store_test

import (
	"slices"
	"strconv"
	"testing"

	"noonbell/api"
	"noonbell/disk"
	"noonbell/store"
)

// step is an Add or a Replace.
type step struct {
	replace bool
	l       []api.Record
}

func (s step) on(to *store.Store) api.Errno {
	if s.replace {
		return to.Replace(s.l)
	}
	return to.Add(s.l)
}

// behind are the records that the step makes of others.
func (s step) behind(l []api.Record) []api.Record {
	if s.replace {
		return s.l
	}
	return slices.Concat(l, s.l)
}

func (s step) String() string {
	if s.replace {
		return "Replace by " + shown(s.l)
	}
	return "Add of " + shown(s.l)
}

// prepared is a disk that the steps were carried out on, a store, and its
// records.
func prepared(t *testing.T, steps []step) (*disk.Disk, *store.Store, []api.Record) {
	t.Helper()
	d := disk.New()
	s, l, _ := store.Open(d)
	for _, c := range steps {
		wantErr(t, c.String(), c.on(s), api.OK)
		l = c.behind(l)
	}
	return d, s, l
}

// beginnings are stores of all kinds: without a record, with one, with
// several, with elder and longer ones in the log's other area.
func beginnings() [][]step {
	return [][]step{
		nil,
		{{false, several()[1:2]}},
		{{false, several()}},
		{{true, []api.Record{sized(1, 256)}}, {false, several()[:2]}},
		{{false, several()}, {true, several()[2:3]}},
		{{false, several()[:2]}, {true, nil}},
	}
}

func endings() []step {
	return []step{
		{false, nil},
		{false, []api.Record{sized(2, 5)}},
		{false, []api.Record{sized(3, 200), sized(4, 300), sized(5, 30)}},
		{true, nil},
		{true, []api.Record{sized(6, 5)}},
		{true, []api.Record{sized(7, 100), sized(8, 156), sized(9, 500)}},
	}
}

// callsOf is how many calls of the disk the step makes.
func callsOf(t *testing.T, begin []step, s step) int {
	t.Helper()
	d, on, _ := prepared(t, begin)
	ops := d.Ops()
	wantErr(t, s.String(), s.on(on), api.OK)
	return d.Ops() - ops
}

// wantGoesOn holds that a store lies on the disk which has these records, and
// that can be gone on with.
func wantGoesOn(t *testing.T, what string, d *disk.Disk, l []api.Record) {
	t.Helper()
	on := wantOpen(t, what, d, l)
	for _, s := range []step{{false, several()[:2]}, {true, several()[3:5]}, {false, several()[5:]}} {
		wantErr(t, what, s.on(on), api.OK)
		l = s.behind(l)
		d.Crash(0)
		d.Power()
		wantStore(t, what, on, l)
		wantOpen(t, what+", "+s.String(), d, l)
	}
}

// wantRefused holds that the store answers e to whatever could be laid down,
// and leaves the disk alone. What is wrong by itself is told ahead of it.
func wantRefused(t *testing.T, d *disk.Disk, s *store.Store, l []api.Record, e api.Errno) {
	t.Helper()
	was, ops := sectorsOf(d), d.Ops()
	for _, next := range [][]api.Record{nil, several()[:1], several(), filling(most), filling(2 * most)} {
		wantErr(t, "Add behind an error", s.Add(next), e)
		wantErr(t, "Replace behind an error", s.Replace(next), e)
		wantStore(t, "behind an error", s, l)
	}
	for what, c := range wrong() {
		for _, next := range [][]api.Record{{c.r}, {{Kind: 1}, c.r}} {
			wantErr(t, what+" behind an error", s.Add(next), c.e)
			wantErr(t, what+" behind an error", s.Replace(next), c.e)
			wantStore(t, "behind an error", s, l)
		}
	}
	if sectorsOf(d) != was || d.Ops() != ops {
		t.Errorf("behind error %d the disk was written to", e)
	}
}

func TestP72BehindAnErrorOfTheDisk(t *testing.T) {
	for _, e := range []api.Errno{api.ErrIO, api.ErrDead} {
		for _, replace := range []bool{false, true} {
			for k := range 4 {
				d, s, l := prepared(t, []step{{false, several()[:3]}})
				if e == api.ErrIO {
					d.Fail(k)
				} else {
					d.Cut(k, 0)
				}
				wantErr(t, "the first", step{replace, several()[:1]}.on(s), e)
				wantStore(t, "the first", s, l)
				wantRefused(t, d, s, l, e)
				d.Power()
				wantRefused(t, d, s, l, e)
				// Another error of the disk is not told: it is not asked.
				d.Crash(0)
				wantRefused(t, d, s, l, e)
				d.Power()
				anew := wantOpen(t, "opened anew", d, l)
				wantErr(t, "opened anew", anew.Add(several()[3:]), api.OK)
				wantRefused(t, d, s, l, e)
				wantOpen(t, "opened anew", d, several())
			}
		}
	}
}

// ErrFull and a wrong record are told ahead of what the disk would say, and no
// order of the disk has a call less left.
func TestP72RefusedAheadOfTheDisk(t *testing.T) {
	for _, e := range []api.Errno{api.ErrIO, api.ErrDead} {
		d, s, l := prepared(t, []step{{false, several()}})
		if e == api.ErrIO {
			d.Fail(0)
		} else {
			d.Cut(0, 0)
		}
		wantErr(t, "too much", s.Add(filling(s.Room()+5)), api.ErrFull)
		wantErr(t, "too much", s.Replace(filling(most+5)), api.ErrFull)
		wantErr(t, "Kind 0", s.Add([]api.Record{{}}), api.ErrArg)
		wantErr(t, "Kind 0", s.Replace([]api.Record{{}}), api.ErrArg)
		wantStore(t, "refused", s, l)
		wantErr(t, "now", s.Add(nil), e)
		wantErr(t, "too much", s.Add(filling(s.Room()+5)), e)
		wantErr(t, "too much", s.Replace(filling(most+5)), e)
		wantErr(t, "Kind 0", s.Add([]api.Record{{}}), api.ErrArg)
		wantStore(t, "refused", s, l)
	}
}

// The power goes at each call of each step, and each choice of what is cached
// is kept: the step's records are there all of them, or none of them is.
func TestP74EachCut(t *testing.T) {
	for b, begin := range beginnings() {
		for _, s := range endings() {
			calls := callsOf(t, begin, s)
			for k := range calls + 1 {
				for keep := range uint64(1 << max(1, min(k, calls-3))) {
					what := "beginning " + strconv.Itoa(b) + ", " + s.String() + ", cut at " + strconv.Itoa(k) + ", keep " + strconv.FormatUint(keep, 2)
					d, on, l := prepared(t, begin)
					d.Cut(k, keep)
					e, left := s.on(on), l
					if k == calls {
						wantErr(t, what, e, api.OK)
						d.Crash(keep)
						left = s.behind(l)
						wantStore(t, what, on, left)
					} else {
						wantErr(t, what, e, api.ErrDead)
						wantStore(t, what, on, l)
						// What tells of the step is what is written last.
						if k == calls-1 && keep&1 == 1 {
							left = s.behind(l)
						}
					}
					wantOpen(t, what+", dead", d, left)
					d.Power()
					wantGoesOn(t, what, d, left)
				}
			}
		}
	}
}

// The disk fails at each call of each step, and then the power goes.
func TestP74EachFailure(t *testing.T) {
	for b, begin := range beginnings() {
		for _, s := range endings() {
			calls := callsOf(t, begin, s)
			for k := range calls {
				for keep := range uint64(1 << min(k+1, calls-2)) {
					what := "beginning " + strconv.Itoa(b) + ", " + s.String() + ", failing at " + strconv.Itoa(k) + ", keep " + strconv.FormatUint(keep, 2)
					d, on, l := prepared(t, begin)
					d.Fail(k)
					wantErr(t, what, s.on(on), api.ErrIO)
					wantStore(t, what, on, l)
					// What is cached is read, too.
					cached, left := l, l
					if k == calls-1 {
						cached = s.behind(l)
						if keep&1 == 1 {
							left = cached
						}
					}
					wantOpen(t, what+", failing", d, cached)
					d.Crash(keep)
					wantOpen(t, what+", dead", d, left)
					d.Power()
					wantGoesOn(t, what, d, left)
				}
			}
		}
	}
}

// What was answered OK lasts, however much of what is cached is lost.
func TestP74WhatWasAnsweredLasts(t *testing.T) {
	for _, begin := range beginnings() {
		for _, s := range endings() {
			for _, keep := range []uint64{0, 1, 2, all} {
				d, on, l := prepared(t, begin)
				wantErr(t, s.String(), s.on(on), api.OK)
				d.Crash(keep)
				wantOpen(t, s.String()+", crash", d, s.behind(l))
			}
		}
	}
}
