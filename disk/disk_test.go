package disk_test

import (
	"math"
	"strconv"
	"strings"
	"testing"

	"noonbell/api"
	"noonbell/disk"
)

const all = math.MaxUint64

// longest is a text of just as many bytes as a sector may have, of all kinds.
func longest() string {
	var b strings.Builder
	for c := range api.Sector {
		b.WriteByte(byte(c))
	}
	return b.String()
}

func wantErr(t *testing.T, what string, got, e api.Errno) {
	t.Helper()
	if got != e {
		t.Errorf("%s: error %d, not %d", what, got, e)
	}
}

func wantRead(t *testing.T, d *disk.Disk, i int, s string) {
	t.Helper()
	if got, e := d.Read(i); got != s || e != api.OK {
		t.Errorf("Read(%d): %q, error %d, not %q", i, got, e, s)
	}
}

func wantOps(t *testing.T, d *disk.Disk, n int) {
	t.Helper()
	if d.Ops() != n {
		t.Errorf("Ops: %d, not %d", d.Ops(), n)
	}
}

func wantDead(t *testing.T, d *disk.Disk, dead bool) {
	t.Helper()
	if d.Dead() != dead {
		t.Errorf("Dead: %t", d.Dead())
	}
}

// put writes, and fails the test if it is refused.
func put(t *testing.T, d *disk.Disk, i int, s string) {
	t.Helper()
	wantErr(t, "Write("+strconv.Itoa(i)+")", d.Write(i, s), api.OK)
}

func sync(t *testing.T, d *disk.Disk) {
	t.Helper()
	wantErr(t, "Sync", d.Sync(), api.OK)
}

// wrongSectors are numbers of no sector, those beside the first and the last
// one among them.
func wrongSectors() []int {
	return []int{-1, api.Sectors, -2, api.Sectors + 1, -api.Sectors, 2 * api.Sectors, 1 << 32, -1 << 32, math.MaxInt, math.MinInt}
}

func TestP41New(t *testing.T) {
	d := disk.New()
	for i := range api.Sectors {
		wantRead(t, d, i, "")
	}
	wantOps(t, d, 0)
	wantDead(t, d, false)
	for _, i := range wrongSectors() {
		if s, e := d.Read(i); s != "" || e != api.ErrSector {
			t.Errorf("Read(%d): %q, error %d", i, s, e)
		}
	}
}

func TestP41NothingInCommon(t *testing.T) {
	a, b := disk.New(), disk.New()
	put(t, a, 0, "a")
	put(t, b, 0, "b")
	put(t, b, 1, "c")
	sync(t, a)
	b.Crash(0)
	wantRead(t, a, 0, "a")
	wantRead(t, b, 0, "")
	wantDead(t, a, false)
	b.Power()
	b.Fail(0)
	wantErr(t, "the one that fails", b.Sync(), api.ErrIO)
	put(t, a, 1, "d")
	wantOps(t, a, 3)
	wantOps(t, b, 2)
}

func TestP42Write(t *testing.T) {
	d := disk.New()
	texts := []string{"", "a", "\x00", "\xff\xfe", "é", longest()[1:], longest()}
	for n, s := range texts {
		for _, i := range []int{0, 1, 128, api.Sectors - 2, api.Sectors - 1} {
			put(t, d, i, s)
			wantRead(t, d, i, s)
		}
		wantOps(t, d, 5*(n+1))
	}
	wantRead(t, d, 2, "")
	wantRead(t, d, 127, "")
	put(t, d, 0, "short")
	put(t, d, 1, "")
	wantRead(t, d, 0, "short")
	wantRead(t, d, 1, "")
	wantRead(t, d, api.Sectors-1, longest())
}

func TestP42EverySector(t *testing.T) {
	d := disk.New()
	for i := range api.Sectors {
		put(t, d, i, strconv.Itoa(i))
	}
	for i := range api.Sectors {
		wantRead(t, d, i, strconv.Itoa(i))
	}
	sync(t, d)
	for i := range api.Sectors {
		put(t, d, i, "gone")
	}
	d.Crash(0)
	for i := range api.Sectors {
		wantRead(t, d, i, strconv.Itoa(i))
	}
	wantOps(t, d, 2*api.Sectors+1)
}

func TestP42WriteRefuses(t *testing.T) {
	d := disk.New()
	put(t, d, 0, "a")
	put(t, d, api.Sectors-1, "z")
	for _, i := range wrongSectors() {
		for _, s := range []string{"", "x", longest(), longest() + "x"} {
			wantErr(t, "a wrong sector", d.Write(i, s), api.ErrSector)
		}
	}
	for _, i := range []int{0, 7, api.Sectors - 1} {
		for _, s := range []string{longest() + "x", strings.Repeat("é", api.Sector/2) + "x", strings.Repeat("x", 5000)} {
			wantErr(t, "a text that is too long", d.Write(i, s), api.ErrSize)
		}
	}
	wantRead(t, d, 0, "a")
	wantRead(t, d, 7, "")
	wantRead(t, d, api.Sectors-1, "z")
	wantOps(t, d, 2)
	// What was refused is not cached: the k-th ones are still these two.
	d.Crash(2)
	wantRead(t, d, 0, "")
	wantRead(t, d, api.Sectors-1, "z")
}

// Runes of several bytes count as their bytes.
func TestP42SizeIsBytes(t *testing.T) {
	d := disk.New()
	fits := strings.Repeat("é", api.Sector/2)
	put(t, d, 3, fits)
	wantErr(t, "half as many runes and one", d.Write(3, fits+"é"), api.ErrSize)
	wantRead(t, d, 3, fits)
}

func TestP42OrderOfRefusals(t *testing.T) {
	states := []struct {
		name  string
		begin func(d *disk.Disk)
		e     api.Errno
	}{
		{"well", func(d *disk.Disk) {}, api.OK},
		{"without power", func(d *disk.Disk) { d.Crash(0) }, api.ErrDead},
		{"failing", func(d *disk.Disk) { d.Fail(0); d.Sync() }, api.ErrIO},
		{"failing, then without power", func(d *disk.Disk) { d.Fail(0); d.Sync(); d.Crash(0) }, api.ErrDead},
		{"a cut is due", func(d *disk.Disk) { d.Cut(0, 0) }, api.ErrDead},
		{"a failure is due", func(d *disk.Disk) { d.Fail(0) }, api.ErrIO},
		{"both are due", func(d *disk.Disk) { d.Fail(0); d.Cut(0, 0) }, api.ErrDead},
		{"failing, and a cut is due", func(d *disk.Disk) { d.Fail(0); d.Sync(); d.Cut(0, 0) }, api.ErrIO},
	}
	for _, c := range states {
		d := disk.New()
		c.begin(d)
		dead := d.Dead()
		for range 2 {
			wantErr(t, c.name+", both wrong", d.Write(-1, longest()+"x"), api.ErrSector)
			wantErr(t, c.name+", a wrong sector", d.Write(api.Sectors, "x"), api.ErrSector)
			wantErr(t, c.name+", too long", d.Write(0, longest()+"x"), api.ErrSize)
			wantDead(t, d, dead)
		}
		wantErr(t, c.name+", Write", d.Write(0, longest()), c.e)
		wantErr(t, c.name+", Sync", d.Sync(), c.e)
		wantErr(t, c.name+", Write again", d.Write(0, "x"), c.e)
		if c.e == api.OK {
			wantOps(t, d, 3)
			wantRead(t, d, 0, "x")
		} else {
			wantOps(t, d, 0)
			wantRead(t, d, 0, "")
		}
	}
}

// A call that is refused for what it was handed takes nothing from an order.
func TestP42RefusedTakesNothing(t *testing.T) {
	for _, failure := range []bool{false, true} {
		d := disk.New()
		e := api.ErrDead
		if failure {
			e = api.ErrIO
			d.Fail(2)
		} else {
			d.Cut(2, 0)
		}
		for range 5 {
			wantErr(t, "a wrong sector", d.Write(-1, ""), api.ErrSector)
			wantErr(t, "too long", d.Write(0, longest()+"x"), api.ErrSize)
		}
		put(t, d, 0, "a")
		sync(t, d)
		wantErr(t, "the third", d.Write(0, "b"), e)
		wantOps(t, d, 2)
		wantRead(t, d, 0, "a")
	}
}

func TestP42Sync(t *testing.T) {
	d := disk.New()
	sync(t, d)
	sync(t, d)
	wantOps(t, d, 2)
	put(t, d, 4, "a")
	put(t, d, 4, "b")
	sync(t, d)
	wantRead(t, d, 4, "b")
	put(t, d, 4, "c")
	wantRead(t, d, 4, "c")
	wantOps(t, d, 6)
	d.Crash(0)
	wantRead(t, d, 4, "b")
}

// What lasts is a copy: later writes do not reach it.
func TestP42SyncIsAValue(t *testing.T) {
	d := disk.New()
	put(t, d, 0, "a")
	sync(t, d)
	put(t, d, 1, "b")
	d.Crash(0)
	d.Power()
	wantRead(t, d, 0, "a")
	wantRead(t, d, 1, "")
	put(t, d, 0, "c")
	d.Crash(0)
	wantRead(t, d, 0, "a")
}

// Ops goes on over crashes, failures and Power; what was refused is not in it.
func TestP42Ops(t *testing.T) {
	d := disk.New()
	put(t, d, 0, "a")
	d.Crash(all)
	wantErr(t, "without power", d.Sync(), api.ErrDead)
	wantOps(t, d, 1)
	d.Power()
	wantOps(t, d, 1)
	sync(t, d)
	d.Fail(0)
	wantErr(t, "the disk fails", d.Sync(), api.ErrIO)
	wantErr(t, "it fails still", d.Write(0, "b"), api.ErrIO)
	wantOps(t, d, 2)
	d.Power()
	d.Cut(1, 0)
	put(t, d, 0, "c")
	wantErr(t, "the power goes", d.Sync(), api.ErrDead)
	d.Read(0)
	d.Dead()
	wantOps(t, d, 3)
}

func TestP43Read(t *testing.T) {
	d := disk.New()
	put(t, d, 0, "a")
	put(t, d, api.Sectors-1, "z")
	sync(t, d)
	put(t, d, 0, "b")
	wantRead(t, d, 0, "b")
	d.Fail(0)
	wantErr(t, "the disk fails", d.Write(0, "c"), api.ErrIO)
	wantRead(t, d, 0, "b")
	wantRead(t, d, api.Sectors-1, "z")
	d.Crash(0)
	wantRead(t, d, 0, "a")
	wantRead(t, d, api.Sectors-1, "z")
	for _, i := range wrongSectors() {
		if s, e := d.Read(i); s != "" || e != api.ErrSector {
			t.Errorf("Read(%d) without power: %q, error %d", i, s, e)
		}
	}
	wantErr(t, "without power", d.Write(0, "d"), api.ErrDead)
	wantRead(t, d, 0, "a")
}

// Read takes nothing from an order, and brings none to pass.
func TestP43ReadIsNoCallOfAnOrder(t *testing.T) {
	d := disk.New()
	d.Cut(1, 0)
	d.Fail(1)
	for i := range 5 {
		wantRead(t, d, i, "")
	}
	put(t, d, 0, "a")
	for range 5 {
		wantRead(t, d, 0, "a")
	}
	wantDead(t, d, false)
	wantErr(t, "the power goes", d.Sync(), api.ErrDead)
	wantOps(t, d, 1)
}

func TestExamples(t *testing.T) {
	d := disk.New()
	put(t, d, 0, "a")
	sync(t, d)
	put(t, d, 0, "b")
	put(t, d, 1, "c")
	d.Crash(2)
	wantRead(t, d, 0, "a")
	wantRead(t, d, 1, "c")

	d = disk.New()
	d.Fail(1)
	put(t, d, 0, "a")
	wantErr(t, "Write", d.Write(0, "b"), api.ErrIO)
	wantErr(t, "Sync", d.Sync(), api.ErrIO)
	d.Power()
	put(t, d, 0, "c")
}
