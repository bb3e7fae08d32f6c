package disk_test

import (
	"math"
	"strconv"
	"testing"

	"noonbell/api"
	"noonbell/disk"
)

// orders are how many calls are ordered, and how many are left then.
func orders() [][2]int {
	return [][2]int{{0, 0}, {1, 1}, {2, 2}, {3, 3}, {70, 70}, {-1, 0}, {-2, 0}, {-70, 0}, {math.MinInt, 0}}
}

func TestP44Cut(t *testing.T) {
	for _, c := range orders() {
		d := disk.New()
		put(t, d, 0, "a")
		sync(t, d)
		d.Cut(c[0], all)
		for i := range c[1] {
			put(t, d, i, "b")
			wantDead(t, d, false)
		}
		wantErr(t, "the power goes", d.Write(200, "c"), api.ErrDead)
		wantDead(t, d, true)
		wantOps(t, d, 2+c[1])
		wantRead(t, d, 200, "")
		for i := range c[1] {
			wantRead(t, d, i, "b")
		}
		wantErr(t, "it is gone", d.Sync(), api.ErrDead)
		d.Power()
		put(t, d, 200, "d")
		sync(t, d)
	}
}

// The write at which the power goes is not even cached, whatever is kept.
func TestP44CutAtAWrittenSector(t *testing.T) {
	d := disk.New()
	put(t, d, 0, "a")
	sync(t, d)
	put(t, d, 0, "b")
	d.Cut(0, all)
	wantErr(t, "the power goes", d.Write(0, "c"), api.ErrDead)
	wantRead(t, d, 0, "b")
}

func TestP44CutAtSync(t *testing.T) {
	for keep, s := range []string{"a", "b"} {
		d := disk.New()
		put(t, d, 0, "a")
		sync(t, d)
		put(t, d, 0, "b")
		d.Cut(0, uint64(keep))
		wantErr(t, "the power goes", d.Sync(), api.ErrDead)
		wantRead(t, d, 0, s)
	}
}

func TestP44Fail(t *testing.T) {
	for _, c := range orders() {
		d := disk.New()
		d.Fail(c[0])
		for i := range c[1] {
			put(t, d, i, "b")
		}
		wantErr(t, "the disk fails", d.Write(0, "c"), api.ErrIO)
		wantErr(t, "it fails still", d.Sync(), api.ErrIO)
		wantErr(t, "it fails still", d.Write(200, "c"), api.ErrIO)
		wantDead(t, d, false)
		wantOps(t, d, c[1])
		wantRead(t, d, 200, "")
		for i := range c[1] {
			wantRead(t, d, i, "b")
		}
		d.Power()
		put(t, d, 200, "d")
		sync(t, d)
	}
}

// Great orders do not come to pass, and are not gone by counting.
func TestP44FarOrders(t *testing.T) {
	d := disk.New()
	d.Cut(math.MaxInt, 0)
	d.Fail(math.MaxInt)
	for range 1000 {
		sync(t, d)
	}
	wantDead(t, d, false)
}

func TestP44ElderOrderIsGone(t *testing.T) {
	d := disk.New()
	put(t, d, 0, "a")
	put(t, d, 1, "b")
	d.Cut(0, 1)
	d.Cut(2, 2)
	sync(t, d)
	put(t, d, 0, "c")
	d.Cut(1, 0)
	put(t, d, 1, "d")
	d.Cut(0, 2)
	wantErr(t, "the power goes", d.Sync(), api.ErrDead)
	wantRead(t, d, 0, "a")
	wantRead(t, d, 1, "d")

	d = disk.New()
	d.Fail(0)
	d.Fail(2)
	put(t, d, 0, "a")
	d.Fail(1)
	put(t, d, 0, "b")
	d.Fail(3)
	sync(t, d)
	d.Fail(0)
	wantErr(t, "the disk fails", d.Sync(), api.ErrIO)

	d = disk.New()
	d.Cut(5, 0)
	d.Cut(-5, 0)
	wantErr(t, "the power goes", d.Sync(), api.ErrDead)
	d.Power()
	d.Fail(5)
	d.Fail(-5)
	wantErr(t, "the disk fails", d.Sync(), api.ErrIO)
}

// An order leaves one of the other kind as it is.
func TestP44BothKinds(t *testing.T) {
	begin := []func(d *disk.Disk, cut, failure int){
		func(d *disk.Disk, cut, failure int) { d.Cut(cut, 0); d.Fail(failure) },
		func(d *disk.Disk, cut, failure int) { d.Fail(failure); d.Cut(cut, 0) },
	}
	for _, order := range begin {
		for cut := range 4 {
			for failure := range 4 {
				d := disk.New()
				order(d, cut, failure)
				for range min(cut, failure) {
					put(t, d, 0, "a")
				}
				e := api.ErrDead
				if failure < cut {
					e = api.ErrIO
				}
				for range 5 {
					wantErr(t, "what comes first", d.Sync(), e)
				}
				wantDead(t, d, e == api.ErrDead)
				wantOps(t, d, min(cut, failure))
				d.Power()
				for range 5 {
					sync(t, d)
				}
				wantDead(t, d, false)
			}
		}
	}
}

func TestP44OrdersCountFromWhenTheyWereGiven(t *testing.T) {
	d := disk.New()
	d.Cut(3, 0)
	sync(t, d)
	d.Fail(2)
	sync(t, d)
	sync(t, d)
	wantErr(t, "a cut and a failure of the same call", d.Sync(), api.ErrDead)
	d.Power()
	d.Fail(3)
	sync(t, d)
	d.Cut(3, 0)
	sync(t, d)
	sync(t, d)
	wantErr(t, "the failure comes first", d.Sync(), api.ErrIO)
}

func TestP44Crash(t *testing.T) {
	for keep := range uint64(4) {
		d := disk.New()
		put(t, d, 0, "a")
		put(t, d, 1, "b")
		sync(t, d)
		put(t, d, 1, "c")
		put(t, d, 0, "d")
		d.Crash(keep)
		wantDead(t, d, true)
		wantOps(t, d, 5)
		wantRead(t, d, 1, []string{"b", "c"}[keep&1])
		wantRead(t, d, 0, []string{"a", "d"}[keep>>1])
	}
}

// Without power a crash does nothing: what lasted once stays, and so does what
// was lost.
func TestP44CrashWithoutPower(t *testing.T) {
	d := disk.New()
	put(t, d, 0, "a")
	sync(t, d)
	put(t, d, 0, "b")
	put(t, d, 1, "c")
	d.Crash(2)
	for _, keep := range []uint64{all, 0, 1, 2} {
		d.Crash(keep)
		wantDead(t, d, true)
		wantRead(t, d, 0, "a")
		wantRead(t, d, 1, "c")
	}
	d.Power()
	d.Crash(all)
	wantRead(t, d, 0, "a")
	wantRead(t, d, 1, "c")
}

// A crash is behind all orders: behind Power none of them is there.
func TestP44CrashEndsOrders(t *testing.T) {
	d := disk.New()
	d.Cut(0, all)
	d.Fail(0)
	d.Crash(0)
	d.Power()
	sync(t, d)
	d.Cut(1, all)
	d.Fail(1)
	d.Crash(0)
	d.Cut(1, all)
	d.Fail(1)
	wantErr(t, "without power", d.Sync(), api.ErrDead)
	d.Power()
	for range 4 {
		sync(t, d)
	}
}

func TestP44FirstWritesOrder(t *testing.T) {
	for keep := range uint64(8) {
		d := disk.New()
		put(t, d, 9, "old")
		sync(t, d)
		put(t, d, 5, "a")
		put(t, d, 9, "b")
		put(t, d, 5, "c")
		put(t, d, 2, "d")
		put(t, d, 9, "e")
		put(t, d, 5, "f")
		d.Crash(keep)
		for k, c := range []struct {
			i              int
			lasted, latest string
		}{{5, "", "f"}, {9, "old", "e"}, {2, "", "d"}} {
			want := c.lasted
			if keep>>k&1 == 1 {
				want = c.latest
			}
			wantRead(t, d, c.i, want)
		}
	}
}

// Behind a Sync, and behind a crash, the first writes are counted anew.
func TestP44FirstWritesAnew(t *testing.T) {
	end := []func(d *disk.Disk){
		func(d *disk.Disk) { d.Sync() },
		func(d *disk.Disk) { d.Crash(all); d.Power() },
		func(d *disk.Disk) { d.Cut(0, all); d.Sync(); d.Power() },
	}
	for _, ended := range end {
		d := disk.New()
		put(t, d, 0, "a")
		put(t, d, 1, "b")
		ended(d)
		put(t, d, 1, "c")
		put(t, d, 0, "d")
		d.Crash(1)
		wantRead(t, d, 1, "c")
		wantRead(t, d, 0, "a")
	}
}

// A sector that is written as it is already is cached all the same.
func TestP44SameTextIsCached(t *testing.T) {
	d := disk.New()
	put(t, d, 0, "a")
	sync(t, d)
	put(t, d, 0, "a")
	put(t, d, 1, "")
	put(t, d, 2, "b")
	put(t, d, 3, "c")
	d.Crash(4)
	wantRead(t, d, 0, "a")
	wantRead(t, d, 1, "")
	wantRead(t, d, 2, "b")
	wantRead(t, d, 3, "")
}

// Of a sector that is written twice ahead of a Sync, the first text is never
// what lasts.
func TestP44WrittenTwice(t *testing.T) {
	for _, keep := range []uint64{0, 1, 2, all} {
		d := disk.New()
		put(t, d, 7, "a")
		sync(t, d)
		put(t, d, 7, "b")
		put(t, d, 7, "c")
		wantRead(t, d, 7, "c")
		d.Crash(keep)
		want := "a"
		if keep&1 == 1 {
			want = "c"
		}
		wantRead(t, d, 7, want)
	}
}

func TestP44MoreThan64(t *testing.T) {
	keeps := []uint64{0, all, 1, 2, 1 << 62, 1 << 63, 0x5555555555555555, 0xaaaaaaaaaaaaaaaa, 0xffffffff, 0xffffffff00000000, 0x0123456789abcdef}
	for bit := range 64 {
		keeps = append(keeps, 1<<bit, ^(uint64(1) << bit))
	}
	for _, count := range []int{63, 64, 65, 128, 129, api.Sectors} {
		for _, keep := range keeps {
			for _, cut := range []bool{false, true} {
				checkMany(t, count, keep, cut)
			}
		}
	}
}

// place is where the k-th write goes: every sector once, in no plain order.
func place(k int) int {
	return (k*37 + 11) % api.Sectors
}

func checkMany(t *testing.T, count int, keep uint64, cut bool) {
	t.Helper()
	d := disk.New()
	for i := range api.Sectors {
		d.Write(i, "old")
	}
	sync(t, d)
	for k := range count {
		d.Write(place(k), "new")
	}
	for k := range count / 2 {
		d.Write(place(count-1-2*k), "again")
	}
	if cut {
		d.Cut(0, keep)
		wantErr(t, "the power goes", d.Write(0, "late"), api.ErrDead)
	} else {
		d.Crash(keep)
	}
	for k := range api.Sectors {
		want := "old"
		if k < count && keep&(1<<(k%64)) != 0 {
			want = "new"
			if (count-1-k)%2 == 0 && (count-1-k)/2 < count/2 {
				want = "again"
			}
		}
		if got, _ := d.Read(place(k)); got != want {
			t.Errorf("%d cached, keep %x: sector %d, the one of number %d, is %q, not %q", count, keep, place(k), k, got, want)
		}
	}
}

func TestP45Power(t *testing.T) {
	d := disk.New()
	d.Power()
	wantDead(t, d, false)
	sync(t, d)
	d.Crash(0)
	wantDead(t, d, true)
	d.Power()
	wantDead(t, d, false)
	sync(t, d)
	d.Fail(0)
	wantErr(t, "the disk fails", d.Sync(), api.ErrIO)
	wantDead(t, d, false)
	d.Crash(0)
	wantDead(t, d, true)
	wantErr(t, "without power", d.Sync(), api.ErrDead)
	d.Power()
	sync(t, d)
	wantDead(t, d, false)
}

func TestP45PowerEndsOrders(t *testing.T) {
	for n := range 3 {
		d := disk.New()
		d.Cut(n, 0)
		d.Fail(n)
		d.Power()
		for range 5 {
			sync(t, d)
		}
		// While the disk fails a cut is ordered, but no call reaches it.
		d.Fail(0)
		wantErr(t, "the disk fails", d.Sync(), api.ErrIO)
		d.Cut(n, 0)
		d.Fail(n)
		for range 5 {
			wantErr(t, "it fails still", d.Sync(), api.ErrIO)
		}
		d.Power()
		for range 5 {
			sync(t, d)
		}
	}
}

func TestP45CachedStays(t *testing.T) {
	begin := []func(d *disk.Disk){
		func(d *disk.Disk) { d.Power() },
		func(d *disk.Disk) { d.Fail(0); d.Write(8, "x"); d.Power() },
		func(d *disk.Disk) { d.Fail(0); d.Sync(); d.Power() },
		func(d *disk.Disk) { d.Cut(3, all); d.Power() },
	}
	for _, powered := range begin {
		for keep := range uint64(4) {
			d := disk.New()
			put(t, d, 5, "a")
			powered(d)
			wantRead(t, d, 5, "a")
			wantRead(t, d, 8, "")
			put(t, d, 3, "b")
			put(t, d, 5, "c")
			d.Crash(keep)
			wantRead(t, d, 5, []string{"", "c"}[keep&1])
			wantRead(t, d, 3, []string{"", "b"}[keep>>1])
		}
		d := disk.New()
		put(t, d, 5, "a")
		powered(d)
		sync(t, d)
		d.Crash(0)
		wantRead(t, d, 5, "a")
	}
}

// A disk that fails keeps what is cached, and loses it by a crash alone.
func TestP45CrashOfAFailingDisk(t *testing.T) {
	for keep := range uint64(4) {
		d := disk.New()
		put(t, d, 0, "a")
		put(t, d, 1, "b")
		d.Fail(0)
		wantErr(t, "the disk fails", d.Sync(), api.ErrIO)
		d.Crash(keep)
		wantRead(t, d, 0, []string{"", "a"}[keep&1])
		wantRead(t, d, 1, []string{"", "b"}[keep>>1])
		d.Power()
		put(t, d, 2, "c")
		d.Crash(0)
		wantRead(t, d, 0, []string{"", "a"}[keep&1])
		wantRead(t, d, 2, "")
	}
}

// Every script of four calls on two sectors, a cut at every place, and all
// that may be kept.
func TestP46AllShortScripts(t *testing.T) {
	const length, kinds = 4, 3
	for script := range kinds * kinds * kinds * kinds {
		for cut := range length + 1 {
			for keep := range uint64(4) {
				checkScript(t, script, length, kinds, cut, keep)
			}
		}
	}
}

// checkScript writes sectors 0 and 1 and syncs, as the script's digits say,
// till the power goes.
func checkScript(t *testing.T, script, length, kinds, cut int, keep uint64) {
	t.Helper()
	d := disk.New()
	d.Cut(cut, keep)
	var lasted, latest [2]string
	for n := range length {
		kind := script % kinds
		script /= kinds
		text := strconv.Itoa(n)
		var e api.Errno
		if kind == 2 {
			e = d.Sync()
		} else {
			e = d.Write(kind, text)
		}
		if n >= cut {
			wantErr(t, "without power", e, api.ErrDead)
			continue
		}
		wantErr(t, "ahead of the cut", e, api.OK)
		if kind == 2 {
			lasted = latest
		} else {
			latest[kind] = text
		}
	}
	if !d.Dead() {
		d.Crash(keep)
	}
	for i := range lasted {
		got, _ := d.Read(i)
		if got != lasted[i] && got != latest[i] {
			t.Errorf("sector %d is %q, neither %q nor %q", i, got, lasted[i], latest[i])
		}
		if keep == 0 {
			wantRead(t, d, i, lasted[i])
		}
		if keep == 3 {
			wantRead(t, d, i, latest[i])
		}
		d.Power()
		d.Crash(^keep)
		wantRead(t, d, i, got)
	}
}
