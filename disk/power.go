package disk

// order is a cut or a failure that is to come to pass when no call is left of
// it. Its zero value is none.
type order struct {
	given bool
	left  int
}

// keepBits is how many cached sectors have a bit of their own; the next ones
// take the same bits again.
const keepBits = 64

// Cut orders that the power goes at the call behind the next n that count; of
// what is cached then keep tells what lasts.
func (d *Disk) Cut(n int, keep uint64) {
	d.cut, d.keep = orderOf(n), keep
}

// Fail orders that the disk fails from the call behind the next n that count.
func (d *Disk) Fail(n int) {
	d.failure = orderOf(n)
}

// Crash takes the power away at once: the k-th cached sector lasts if bit k
// modulo 64 of keep is set.
func (d *Disk) Crash(keep uint64) {
	if !d.dead {
		d.lose(keep)
	}
}

// Power brings the power back, and ends a failure and all orders. What is
// cached stays so.
func (d *Disk) Power() {
	d.dead, d.failing = false, false
	d.forgetOrders()
}

// Dead answers whether the power is gone.
func (d *Disk) Dead() bool {
	return d.dead
}

func (d *Disk) lose(keep uint64) {
	for k, i := range d.cached {
		if keep>>(k%keepBits)&1 == 1 {
			d.lasting[i] = d.written[i]
		}
	}
	d.written = d.lasting
	d.cached = nil
	d.dead = true
	d.forgetOrders()
}

func (d *Disk) forgetOrders() {
	d.cut, d.failure, d.keep = order{}, order{}, 0
}

func orderOf(n int) order {
	return order{given: true, left: max(n, 0)}
}

func (o order) isDue() bool {
	return o.given && o.left == 0
}

// less is the order with one call less left; one that is not given stays so.
func (o order) less() order {
	if o.given {
		o.left--
	}
	return o
}
