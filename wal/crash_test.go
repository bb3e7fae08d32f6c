package wal_test

import (
	"strconv"
	"strings"
	"testing"

	"noonbell/api"
	"noonbell/disk"
	"noonbell/wal"
)

// step is an Append or a Checkpoint.
type step struct {
	checkpoint bool
	s          string
}

func (s step) on(l *wal.Log) api.Errno {
	if s.checkpoint {
		return l.Checkpoint(s.s)
	}
	return l.Append(s.s)
}

// behind is the text that the step makes of one.
func (s step) behind(text string) string {
	if s.checkpoint {
		return s.s
	}
	return text + s.s
}

func (s step) String() string {
	name := "Append of "
	if s.checkpoint {
		name = "Checkpoint of "
	}
	return name + shown(s.s)
}

// prepared is a disk that the steps were carried out on, a log, and its text.
func prepared(t *testing.T, steps []step) (*disk.Disk, *wal.Log, string) {
	t.Helper()
	d, text := disk.New(), ""
	l, _, _ := wal.Open(d)
	for _, s := range steps {
		wantErr(t, s.String(), s.on(l), api.OK)
		text = s.behind(text)
	}
	return d, l, text
}

// beginnings are logs of all kinds: of either area, empty, within a sector, at
// the end of one, with an elder and longer text in the other area.
func beginnings() [][]step {
	return [][]step{
		nil,
		{{false, "a"}},
		{{false, textOf(256, 30)}},
		{{false, textOf(255, 31)}, {false, "b"}},
		{{true, textOf(300, 32)}},
		{{false, textOf(700, 33)}, {true, "c"}},
		{{true, textOf(700, 33)}, {false, "d"}, {true, textOf(512, 34)}},
		{{false, "e"}, {true, ""}},
	}
}

func endings() []step {
	return []step{
		{false, ""},
		{false, "x"},
		{false, textOf(256, 40)},
		{false, textOf(257, 41)},
		{false, textOf(512, 42)},
		{true, ""},
		{true, "y"},
		{true, textOf(256, 43)},
		{true, textOf(513, 44)},
	}
}

// callsOf is how many calls the step makes.
func callsOf(s step, text string) int {
	switch {
	case s.s == "":
		return 3
	case s.checkpoint:
		return (len(s.s)+255)/256 + 3
	}
	return (len(text)+len(s.s)-1)/256 - len(text)/256 + 1 + 3
}

func TestP54NothingBehindAnError(t *testing.T) {
	for _, e := range []api.Errno{api.ErrIO, api.ErrDead} {
		for k := range 4 {
			d, l, text := prepared(t, []step{{false, "old"}})
			if e == api.ErrIO {
				d.Fail(k)
			} else {
				d.Cut(k, 0)
			}
			wantErr(t, "the first", l.Append("x"), e)
			wantLog(t, "the first", l, len(text), e)
			wantNothing(t, d, l, len(text), e)
			d.Power()
			wantNothing(t, d, l, len(text), e)
			// Another error of the disk is not told: the log does not ask it.
			d.Fail(0)
			wantErr(t, "Sync", d.Sync(), api.ErrIO)
			wantNothing(t, d, l, len(text), e)
			d.Crash(0)
			wantNothing(t, d, l, len(text), e)
			d.Power()
			anew := wantText(t, "opened anew", d, text)
			wantErr(t, "opened anew", anew.Append("er"), api.OK)
			wantNothing(t, d, l, len(text), e)
			wantText(t, "opened anew", d, "older")
		}
	}
}

// wantNothing holds that the log answers e, and leaves the disk alone.
func wantNothing(t *testing.T, d *disk.Disk, l *wal.Log, n int, e api.Errno) {
	t.Helper()
	was, ops := sectorsOf(d), d.Ops()
	for _, s := range []string{"", "x", textOf(600, 50), strings.Repeat("x", roomiest+1)} {
		wantErr(t, "Append behind an error", l.Append(s), e)
		wantErr(t, "Checkpoint behind an error", l.Checkpoint(s), e)
		wantLog(t, "behind an error", l, n, e)
	}
	if sectorsOf(d) != was || d.Ops() != ops {
		t.Errorf("behind error %d the disk was written to", e)
	}
}

func sectorsOf(d *disk.Disk) (all [api.Sectors]string) {
	for i := range all {
		all[i], _ = d.Read(i)
	}
	return all
}

// ErrFull is told ahead of what the disk would say, and no order of the disk
// has a call less left.
func TestP54FullAheadOfTheDisk(t *testing.T) {
	d, l, _ := prepared(t, []step{{false, "old"}})
	d.Fail(0)
	wantErr(t, "too long", l.Append(strings.Repeat("x", roomiest)), api.ErrFull)
	wantErr(t, "too long", l.Checkpoint(strings.Repeat("x", roomiest+1)), api.ErrFull)
	wantLog(t, "too long", l, 3, api.OK)
	wantErr(t, "now", l.Append(""), api.ErrIO)
	wantErr(t, "too long", l.Append(strings.Repeat("x", roomiest)), api.ErrIO)
}

// The power goes at each call of each step, and each choice of what is cached
// is kept: the step is there, or it is not; only when its commit was written it
// is.
func TestP55EachCut(t *testing.T) {
	for b, begin := range beginnings() {
		for _, s := range endings() {
			_, _, text := prepared(t, begin)
			calls := callsOf(s, text)
			for k := range calls + 1 {
				for keep := range uint64(1 << max(1, min(k, calls-3))) {
					what := "beginning " + strconv.Itoa(b) + ", " + s.String() + ", cut at " + strconv.Itoa(k) + ", keep " + strconv.FormatUint(keep, 2)
					d, l, _ := prepared(t, begin)
					d.Cut(k, keep)
					e, left := s.on(l), text
					switch {
					case k == calls:
						wantErr(t, what, e, api.OK)
						d.Crash(keep)
						left = s.behind(text)
					case k == calls-1 && keep&1 == 1:
						left = s.behind(text)
						fallthrough
					default:
						wantErr(t, what, e, api.ErrDead)
						wantLog(t, what, l, len(text), api.ErrDead)
					}
					wantText(t, what+", dead", d, left)
					d.Power()
					wantGoesOn(t, what, d, left)
				}
			}
		}
	}
}

// wantGoesOn holds that a log lies on the disk which has this text, and that
// can be gone on with.
func wantGoesOn(t *testing.T, what string, d *disk.Disk, text string) {
	t.Helper()
	l := wantText(t, what, d, text)
	for _, s := range []step{{false, "on"}, {true, textOf(300, 60)}, {false, "and on"}} {
		wantErr(t, what, s.on(l), api.OK)
		text = s.behind(text)
		d.Crash(0)
		d.Power()
		wantText(t, what+", "+s.String(), d, text)
	}
}

// The disk fails at each call of each step, and then the power goes, or not.
func TestP55EachFailure(t *testing.T) {
	for b, begin := range beginnings() {
		for _, s := range endings() {
			_, _, text := prepared(t, begin)
			calls := callsOf(s, text)
			for k := range calls {
				for keep := range uint64(1 << min(k+1, calls-2)) {
					what := "beginning " + strconv.Itoa(b) + ", " + s.String() + ", failing at " + strconv.Itoa(k) + ", keep " + strconv.FormatUint(keep, 2)
					d, l, _ := prepared(t, begin)
					d.Fail(k)
					wantErr(t, what, s.on(l), api.ErrIO)
					wantLog(t, what, l, len(text), api.ErrIO)
					// What is cached is read, too.
					cached, left := text, text
					if k == calls-1 {
						cached = s.behind(text)
						if keep&1 == 1 {
							left = cached
						}
					}
					wantText(t, what+", failing", d, cached)
					d.Crash(keep)
					wantText(t, what+", dead", d, left)
					d.Power()
					wantGoesOn(t, what, d, left)
				}
			}
		}
	}
}

// Without a crash the log is opened behind a failure, and goes on.
func TestP55FailureAndPower(t *testing.T) {
	for _, begin := range beginnings() {
		for _, s := range endings() {
			_, _, text := prepared(t, begin)
			calls := callsOf(s, text)
			for k := range calls {
				d, l, _ := prepared(t, begin)
				d.Fail(k)
				wantErr(t, s.String(), s.on(l), api.ErrIO)
				d.Power()
				left := text
				if k == calls-1 {
					left = s.behind(text)
				}
				wantGoesOn(t, s.String(), d, left)
			}
		}
	}
}
